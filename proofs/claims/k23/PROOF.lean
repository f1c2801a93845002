import PyProof.Rows.All
import Wide.All
import OpenK.AllK
import Wide.FinOn
import HandS.Base
import HandS.Call
import HandS.Exc
import HandS.ExcOwn
import HandS.TryMany
import HandS.ExcIs
import HandS.ExcField
import HandS.ExcInit
import HandS.WordsExc
import KE.KIsAll
import KE.KTryMore
import KE.KExcIs
import HandS.ForMost
import HandS.ForExc
import HandS.Lambda
import PyProof.Rows.NestShow
import KE.GoesEnum
import HandS.Walk
import HandS.IsInst
import HandS.StrMore
import HandS.Style
import KE.KRevSl
import HandS.Codes
import KE.DataMinMax
import HandS.Head0
import HandS.Head1
import HandS.Head2
import HandS.HeadEnd
import HandS.HeadHook1
import HandS.HeadHook2
import HandS.EndTab
import HandS.NestedK
import HandS.HeadHook4
import HandS.FStr
import HandS.Star
import HandS.Property
import HandS.MakeKwOnly
import PyProof.EqKinds
import HandS.ListItems
import HandS.DeepEq
import HandS.MakeKw
import HandS.HeadHook3
import KE.KExcInit
import KE.SortKeyHeap
import HandS.SortKw
import HandS.Defaults
import PyProof.CollectStr
import PyProof.DictUpdate
import HandS.Finally
import HandS.Conv
import HandS.More
import HandS.WordsDict
import HandS.Text
import KE.DataMinKey
import PySem.Challenge.RW_frontlines_k23_whole_products
set_option Elab.async false
set_option linter.all false
set_option maxRecDepth 100000
set_option maxHeartbeats 4000000
namespace FL
open PySem PySem.Spec PyProof.Rows L2
/-! ### several clauses of one try, each 'except C as n' -/
/-- the name of slot i goes behind a suite -/
def gone (i : Nat) (D : Ends) : Ends :=
  { nx := fun τ G => D.nx (τ.set i none) G, rt := D.rt, bk := fun τ G => D.bk (τ.set i none) G, ct := fun τ G => D.ct (τ.set i none) G }
abbrev Clause : Type := Value × (Addr → Value → Option Addr → TS)
/-- what is wished of an error, clause by clause -/
def wClauses (K : PySem.W.Frag) (i : Nat) (out : WX) (D : Ends) : List Clause → WX
  | [] => out
  | q :: qs => fun c d τ G => ∃ hit, PySem.W.exmOne K c q.1 = some hit
      ∧ (hit = true → ∀ e, G e = none → q.2 e c d (gone i D) (τ.set i (some (.ref e))) G)
      ∧ (hit = false → wClauses K i out D qs c d τ G)
inductive Clauses (X : Cx) (n : Str) : List ExceptHandler → List Clause → Prop
  | done : Clauses X n [] []
  | more {nm : Str} {C : Value} {rd : Addr → Value → Option Addr → TS} {st : Stmt} {sts : List Stmt} {p1 p2 : Pos}
      {hs : List ExceptHandler} {qs : List Clause} (named : Names X nm C)
      (suite : ∀ (e : Addr) (oe : Obj) (c : Value) (d : Option Addr) (pn : List (Addr × Obj)), Zc c d oe →
        (∃ vs, oe.data = .fields vs) → PSs (X.suite e ((e, oe) :: pn)) (st :: sts) (rd e c d))
      (rest : Clauses X n hs qs) :
      Clauses X n (.ExceptHandler (some (.Name nm p1)) (some n) (st :: sts) p2 :: hs) ((C, rd) :: qs)
section
variable {X : Cx} {n : Str} {i : Nat} {pins : List (Addr × Obj)} {out : WX} {D : Ends}
/-- an error that has landed in front of the clauses -/
structure Landed (X : Cx) (pins : List (Addr × Obj)) (e : Addr) (c : Value) (d : Option Addr) (τ : L2.St) (G : Hp) (B : Heap) (sB t : Shared) : Prop where
  inv : Inv X pins τ G sB
  below : ∀ b o, sB.heap.get? b = some o → b ∉ frs X.stack → B.get? b = some o
  fly : HandSPX.FlyingZ B (X.env :: X.outer) e (Zc c d) t.heap
  up : sB.heap.UpToSlots t.heap
  free : G e = none
  os : t.os = sB.os
  bare : AllBare t.gens
theorem Landed.now {e : Addr} {c : Value} {d : Option Addr} {τ : L2.St} {G : Hp} {B : Heap} {sB t : Shared}
    (l : Landed X pins e c d τ G B sB t) : Inv X pins τ G t := l.inv.landed l.below l.fly.1 l.up l.os l.bare
/-- it is no frame's own address -/
theorem Landed.apart {e : Addr} {c : Value} {d : Option Addr} {τ : L2.St} {G : Hp} {B : Heap} {sB t : Shared}
    (l : Landed X pins e c d τ G B sB t) (fr : X.env.frame = some X.env.locals) : e ≠ X.env.locals ∧ e ∉ X.fs := by
  obtain ⟨oe, us, at_, _, dt⟩ := l.fly.there
  have no : e ∉ frs (X.env :: X.outer) := by
    intro m
    obtain ⟨_, u, at2, k⟩ := l.fly.2.2.1.mem m
    rw [at_] at at2
    cases at2
    exact k _ dt
  constructor
  · intro q
    exact no (List.mem_filterMap.mpr ⟨_, List.mem_cons_self, by rw [fr, q]⟩)
  · intro m
    obtain ⟨v, hv, q⟩ := List.mem_filterMap.mp m
    exact no (List.mem_filterMap.mpr ⟨v, List.mem_cons_of_mem _ hv, q⟩)
/-- no clause is left: it flies on -/
theorem none_left {e : Addr} {c : Value} {d : Option Addr} {τ : L2.St} {G : Hp} {B : Heap} {sB t : Shared}
    (l : Landed X pins e c d τ G B sB t) (st : X.stack = X.env :: X.outer) (fr : X.env.frame = some X.env.locals)
    (tk : Takes X out) (w : out c d τ G) : wpAny (model X.prog X.w) X.A (handleBy (.ref e) X.env []) (SP X pins D) X.xe t := by
  refine wpAny_handleBy_nil ?_
  obtain ⟨_, _, _, oe, us, T, oT, tv, at_, _, dt, f1, _⟩ := id l.fly
  unfold PySem.passOn
  refine wpAny_bind (wpAny_field at_ dt f1 ?_)
  rw [if_neg (by simp : ¬ ((Value.ref T == Value.none) = true))]
  have onward : wpAny (model X.prog X.w) X.A (setFlight (.ref e) X.env.frame)
      (fun _ u => wpAny (model X.prog X.w) X.A (throw (.ref e) : Sem Flow) (SP X pins D) X.xe u) X.xe t := by
    rw [fr]
    refine HandSPX.setFlight_upZ l.fly ?_
    intro h hh more
    have sky : Sky B X.stack e (Zc c d) X.env.locals h := by
      rw [st]
      exact .inr (.inr hh)
    exact wpAny_throw (tk _ _ ⟨e, B, sB, pins, τ, G, c, d, rfl, l.inv, l.below, l.up.trans more, sky, l.free, l.os, l.bare, w⟩)
  first
    | exact wpAny_bind onward
    | exact wpAny_bind (wpAny_pure (wpAny_bind onward))
/-- clause by clause -/
theorem by_clauses (st : X.stack = X.env :: X.outer) (fr : X.env.frame = some X.env.locals) (nd : X.N.Nodup) (hi : X.N[i]? = some n)
    (loc : X.env.kindOf n = some .local) (tk : Takes X out) (ok : X.Ok) {hs : List ExceptHandler} {qs : List Clause} (k : Clauses X n hs qs)
    {e : Addr} {c : Value} {d : Option Addr} {τ : L2.St} {G : Hp} {B : Heap} {sB t : Shared} (l : Landed X pins e c d τ G B sB t)
    (w : wClauses X.K i out D qs c d τ G) : wpAny (model X.prog X.w) X.A (handleBy (.ref e) X.env hs) (SP X pins D) X.xe t := by
  induction k with
  | done => exact none_left l st fr tk w
  | @more nm C rd b bs p1 p2 hs' qs' named suite rest ih =>
    obtain ⟨hit, eh, yes, no⟩ := w
    obtain ⟨a1, a2⟩ := l.apart fr
    have J := l.now
    obtain ⟨oe, us, at_, z, dt⟩ := l.fly.there
    have J1 := J.suite at_ dt l.free a1 a2
    refine wpAny_handleBy_cons (codeAny_handlers_test ?_) (fun q => nomatch q)
    have type : PySem.W.Looks (model X.prog X.w) t.heap (typeOf (.ref e)) c := by
      intro A' Q' E' s' keep q
      exact wpAny_typeOf_ref (keep _ _ at_) (by rw [z.1]; exact q)
    have ask := PySem.W.exm_one (M := model X.prog X.w) J.kIn type eh
    have read : ∀ {Q E : Value → Shared → Prop}, Q C t → wpAny (model X.prog X.w) (X.A.mark (some (.ref e))) (eval (.Name nm p1) X.env) Q E t := by
      intro Q E q
      obtain ⟨g, g2, m | ⟨m, v, nn⟩⟩ := named
      · exact ld_glob (X := X.suite e ((e, oe) :: (X.pn ++ pins))) J1 g m q g2
      · exact ld_blt (X := X.suite e ((e, oe) :: (X.pn ++ pins))) J1 g m v q nn g2
    refine read (ask.here ?_)
    cases hit with
    | false =>
      show wpAny _ X.A (handleBy (.ref e) X.env hs') _ _ _
      exact ih (no rfl)
    | true =>
      refine codeAny_handlers_suite_as ?_
      refine HandSPX.lands_againZ l.fly ?_
      intro h fly2 more
      have J2 : Inv X pins τ G { t with heap := h } := l.inv.landed l.below fly2.1 (l.up.trans more) l.os l.bare
      obtain ⟨oe2, us2, at2, z2, dt2⟩ := fly2.there
      have J3 := J2.suite at2 dt2 l.free a1 a2
      refine store_ok (X := X.suite e ((e, oe2) :: (X.pn ++ pins))) (v := .ref e) J3 nd hi (.inl loc) rfl ?_ (.inr loc)
      intro u J4
      have run := (suite e oe2 c d (X.pn ++ pins) z2 ⟨_, dt2⟩).run [] u _ G _ J4 (yes rfl e l.free)
      refine wpAny_mono run ?_ fun _ _ q => q.elim
      intro fl v after
      have leave : ∀ {τ' : L2.St} {G' : Hp} {R : Shared → Prop}, Inv (X.suite e ((e, oe2) :: (X.pn ++ pins))) [] τ' G' v →
          (∀ v', Inv X pins (τ'.set i none) G' v' → R v') →
          wpAny (model X.prog X.w) X.A (do bindName X.env n .none; unbindBehindTheSuite X.env n p2) (fun _ v' => R v') X.xe v := by
        intro τ' G' R J5 r
        exact gone_ok (J5.unsuite ok) nd hi loc r
      cases fl with
      | ret x =>
        obtain ⟨y, τ', G', J5, rx, q⟩ := after
        exact leave J5 fun _ J6 => ⟨y, _, _, J6, rx, q⟩
      | next =>
        obtain ⟨τ', G', J5, q⟩ := after
        exact leave J5 fun _ J6 => ⟨_, _, J6, q⟩
      | brk =>
        obtain ⟨τ', G', J5, q⟩ := after
        exact leave J5 fun _ J6 => ⟨_, _, J6, q⟩
      | cont =>
        obtain ⟨τ', G', J5, q⟩ := after
        exact leave J5 fun _ J6 => ⟨_, _, J6, q⟩
theorem ps_clauses {body : List Stmt} {h₀ : ExceptHandler} {hs : List ExceptHandler} {qs : List Clause} {pos : Pos} {tb : WX → TS}
    (st : X.stack = X.env :: X.outer) (fr : X.env.frame = some X.env.locals) (nd : X.N.Nodup) (hi : X.N[i]? = some n)
    (loc : X.env.kindOf n = some .local) (tk : Takes X out)
    (hb : ∀ (W : WX) (pn : List (Addr × Obj)) (xe : Value → Shared → Prop), Takes (X.tr pn xe) W →
      PassesOwn (model X.prog X.w) X.A X.env xe → PSs (X.tr pn xe) body (tb W))
    (k : Clauses X n (h₀ :: hs) qs) : PS X (.Try body (h₀ :: hs) [] [] pos) (fun D τ G => tb (wClauses X.K i out D qs) D τ G) := by
  constructor
  intro pins s τ G D I rd
  have ok := I.ok
  have frames : X.A.frames = some (X.env :: X.outer) := by rw [ok.frames, st]
  refine wpAny_Try_except ?_
  let catch_ : Value → Shared → Prop := fun x s1 =>
    wpAny (model X.prog X.w) X.A (noteFrame x X.env) (fun _ s2 => wpAny (model X.prog X.w) X.A (setFlight x none)
      (fun _ s3 => wpAny (model X.prog X.w) X.A (handleBy x X.env (h₀ :: hs)) (SP X pins D) X.xe s3) X.xe s2) X.xe s1
  have takes : Takes (X.tr (X.pn ++ pins) catch_) (wClauses X.K i out D qs) := by
    rintro x s1 ⟨e, B, sB, pins', τ1, G1, c, d, rfl, I1, below, up, sky, free, os, bare, w⟩
    have I2 : Inv X pins τ1 G1 sB := I1.ofTry ok
    have sky2 : Sky B (X.env :: X.outer) e (Zc c d) X.env.locals s1.heap := by
      rw [← st]
      exact sky
    show wpAny (model X.prog X.w) X.A (noteFrame (.ref e) X.env) _ _ _
    refine Sky.land Zc.steady frames fr sky2 ?_
    intro h fly more
    exact by_clauses st fr nd hi loc tk ok k ⟨I2, below, fly, up.trans more, free, os, bare⟩ w
  have run := (hb _ (X.pn ++ pins) catch_ takes PassesOwn.looking).run [] s τ G D (I.toTry _) rd
  refine wpAny_mono run ?_ fun _ _ q => q
  intro fl s1 after
  cases fl with
  | ret x =>
    obtain ⟨y, τ1, G1, I1, rx, q⟩ := after
    exact ⟨y, τ1, G1, I1.ofTry ok, rx, q⟩
  | next =>
    obtain ⟨τ1, G1, I1, q⟩ := after
    exact wpAny_execs_nil ⟨τ1, G1, I1.ofTry ok, q⟩
  | brk =>
    obtain ⟨τ1, G1, I1, q⟩ := after
    exact ⟨τ1, G1, I1.ofTry ok, q⟩
  | cont =>
    obtain ⟨τ1, G1, I1, q⟩ := after
    exact ⟨τ1, G1, I1.ofTry ok, q⟩
end
end FL
namespace FL
open PySem PySem.Spec PyProof.Rows L2
/-! ### isinstance(e, c), e an error with fields that the suite holds at a -/
theorem has_cls {K : PySem.W.Frag} {D : Addr} (h : PySem.W.hasDictIn K D = true) : (PySem.W.clsIn K D).isSome = true := by
  obtain ⟨cd, e, _⟩ := PySem.W.any_some h
  rw [e]
  rfl
def rIsY (K : PySem.W.Frag) (cls : Value) (d : Option Addr) (a : Addr) : List V → Hp → VK → Prop := fun xs H Q =>
  ∃ (D dd : Addr) (c : V) (cv : Value) (b : Bool) (fs : List (Str × V)), xs = [.ref a, c] ∧ cls = .ref D ∧ d = some dd ∧ ExcC K D
    ∧ (∀ u, RelV c u → u = cv) ∧ PySem.W.kitOne K (.ref D) cv = some b ∧ H dd = some (.xd fs) ∧ Q (.bl b) H
theorem call_isY {X : Cx} {a : Addr} {cls : Value} {d : Option Addr} {oe : Obj} {pn : List (Addr × Obj)} (hz : Zc cls d oe) (hf : ∃ vs, oe.data = .fields vs) :
    CallR (X.suite a ((a, oe) :: pn)) (.builtin "isinstance") (rIsY X.K cls d a) := by
  rintro pins s σ H xs us Q I r ⟨D, dd, c, cv, b, fs, rfl, rfl, rfl, C, only, e, at_, q⟩
  cases r with
  | cons r1 r2 =>
    cases r2 with
    | cons r2 r3 =>
      cases r3
      cases r1
      obtain rfl := only _ r2
      obtain ⟨vs, dt⟩ := hf
      have told := I.hok dd _ at_
      obtain ⟨m, ns, _⟩ : ∃ m, s.heap.Ns1 dd m ∧ ∀ f, RelO (fs.lookup f) (m f) := told
      obtain ⟨od, ho, _⟩ := lookIn_ns ns
      have here := (I.pin (a, oe) (List.mem_append.mpr (.inl List.mem_cons_self))).1
      have inst : PySem.W.InstAt s.heap a oe D (some od) := ⟨here, hz.1, by unfold PySem.W.notCls; rw [dt] <;> rfl, by rw [hz.2]; exact ho⟩
      refine PySem.W.kia_one (PySem.W.kitx_exc (has_cls C.hd) C.hg C.hk C.hs C.ha C.hn C.ht C.hm) I.kIn inst e (fun q => nomatch q) ?_
      intro tk
      exact ⟨.bl b, H, I.kept (t' := tk) fun _ _ k => k, rfl, q⟩
end FL
namespace FL
open PySem PySem.Spec PyProof.Rows L2
/-! A promise that is kept where no repr is under way. -/
structure FnG (P : Program) (w : World) (K : PySem.W.Frag) (mg : Str → Option Value)
    (base : Heap) (C : CXT) (k : Nat) (f : Addr) (fd : FuncData) (ps : List Str) (sp : Sp) : Prop where
  size : ∀ vs H Q E, sp vs H Q E → vs.length = ps.length
  goes : ∀ (A : Around) (outer : List Env) (s : Shared) (H : Hp) (args : Args)
      (us : List Value) (vs : List V) (Q : VK) (E : XK),
    Room k A → A.guards = some [] → Env0 P w K mg base A outer s H →
    BindsTo s fd args (ps.zip us) → Vals vs us → sp vs H Q E →
    codeAny (model P w) A (.call (.ref f) args) (CR C outer P w H s Q E) s
theorem FnG.of {P : Program} {w : World} {K : PySem.W.Frag} {mg : Str → Option Value} {base : Heap}
    {C : CXT} {k : Nat} {f : Addr} {fd : FuncData} {ps : List Str} {sp : Sp}
    (F : FnOk P w K mg base C k f fd ps sp) : FnG P w K mg base C k f fd ps sp :=
  ⟨F.len, fun A o s H a us vs Q E hr _ => F.run A o s H a us vs Q E hr⟩
section
variable {P : Program} {w : World} {K : PySem.W.Frag} {mg : Str → Option Value} {base : Heap}
theorem okG {x qual : Str} {st : Stmt} {f : Addr} {fd : FuncData} {N ps : List Str} {k : Nat} {sp : Sp}
    (F : Fun K x qual st f fd) (S : FnScope N ps (defScope st))
    (size : ∀ vs H Q E, sp vs H Q E → vs.length = ps.length)
    (body : ∀ (cdv : Value) (A : Around) (outer : List Env) (s : Shared) (H : Hp) (vs : List V) (Q : VK) (E : XK),
      Room k (A.deeper (envOfC qual (defScope st) s.heap.objs.size f cdv)) → A.guards = some [] → sp vs H Q E →
      ∃ t, PSs (cxOf CX0 P w K mg base N qual (defScope st) f cdv A outer s H E).nox (defBody st) t
        ∧ t { nx := fun _ H' => Q .non H', rt := Q } (start N vs) H) :
    FnG P w K mg base CX0 (k + 1) f fd ps sp := by
  obtain ⟨oc, od, kV, doc, pm, an, cdv, ct, osl, rfl, lk, hcd⟩ := F.ex
  refine ⟨size, fun A outer s H args us vs Q E hr hg e0 hb r hsp => ?_⟩
  refine LamX.run_ofS (k := k) lk hcd S hr e0 hb r (size _ _ _ _ hsp) fun h => ?_
  obtain ⟨t, h1, h2⟩ := body cdv A outer s H vs Q E h hg hsp
  exact ⟨t, h1.nox, h2⟩
theorem okGX {x qual : Str} {st : Stmt} {f : Addr} {fd : FuncData} {N ps : List Str} {k : Nat} {sp : Sp}
    (F : Fun K x qual st f fd) (S : FnScope N ps (defScope st))
    (size : ∀ vs H Q E, sp vs H Q E → vs.length = ps.length)
    (body : ∀ (cdv : Value) (A : Around) (outer : List Env) (s : Shared) (H : Hp) (vs : List V) (Q : VK) (E : XK),
      Room k (A.deeper (envOfC qual (defScope st) s.heap.objs.size f cdv)) → A.guards = some [] → sp vs H Q E →
      ∃ t, PSs (cxOf (L2.CX P w) P w K mg base N qual (defScope st) f cdv A outer s H E) (defBody st) t
        ∧ t { nx := fun _ H' => Q .non H', rt := Q } (start N vs) H) :
    FnG P w K mg base (L2.CX P w) (k + 1) f fd ps sp := by
  obtain ⟨oc, od, kV, doc, pm, an, cdv, ct, osl, rfl, lk, hcd⟩ := F.ex
  refine ⟨size, fun A outer s H args us vs Q E hr hg e0 hb r hsp => ?_⟩
  exact LamX.run_ofS (k := k) lk hcd S hr e0 hb r (size _ _ _ _ hsp) fun h =>
    body cdv A outer s H vs Q E h hg hsp
end
section
variable {X : Cx} {C : CXT} {k : Nat} {f : Addr} {fd : FuncData} {ps : List Str} {sp : Sp}
  {dvs : List V} {ds : List Value} {E : XK} {x : Str} {p pos : Pos} {e : Expr} {es : List Expr} {t : TA}
/-! f(e, ..) by such a promise -/
theorem pg_call (F : FnG X.prog X.w X.K X.mg X.base C k f fd ps sp) (hr : Room k X.A) (hG : X.A.guards = some [])
    (hg : Gl X x) (hm : X.mg x = some (.ref f)) (hk : PySem.W.keepIn X.K (.ref f) = true)
    (hb : Binds X.K fd ps ds) (hd : Vals dvs ds) (hx : Passes C X E) (ha : PA X (e :: es) t)
    (hdb : (x == ("__debug__" : Str)) = false := by decide)
    (he : starEach (e :: es) X.env = (false, eval e X.env) :: starEach es X.env := by rfl)
    (hpl : (backTo pos (starEach es X.env)).any (·.1) = false := by rfl) :
    PE X (.Call (.Name x p) (e :: es) [] pos) (tCall sp dvs E t) := by
  constructor
  intro pins s σ H Q I h
  refine wpAny_Call_Name_kw (ld_glob I hg hm ?_ hdb)
  refine PySem.W.callWith_K (h₀ := X.base) I.ok.mod.kin hk ?_ he hpl
  refine thn (ha.run pos pins s σ H _ I h) ?_
  rintro us s1 ⟨vs, H1, J, r, q⟩
  refine ⟨J.kIn, ?_⟩
  have r2 := r.append hd
  have hl : (us ++ ds).length = ps.length := by
    rw [← r2.length]
    exact F.size _ _ _ _ q
  have run := F.goes X.A X.stack s1 H1 ⟨us, []⟩ (us ++ ds) (vs ++ dvs) Q E hr hG J.env0 (hb s1 us J.kIn hl) r2 q
  refine wpAny_call (codeAny_mono run ?_)
  rintro (er | fl) s2 z
  · exact hx pins σ H1 s1 er s2 J z
  · cases fl with
    | ret u => exact J.after z
    | _ => exact False.elim z
end
/-! ### repr of data -/
def NiceD (d : PyData) : Prop := d.showable = true ∧ d.depth ≤ 40 ∧ d.shown.length ≤ sizeLine
/-- data of a value; an empty dict too -/
def Sh (K : PySem.W.Frag) (H : Hp) (v : V) (d : PyData) : Prop :=
  (Dp K H v d ∧ d.hasDict = false) ∨ (∃ a, v = .ref a ∧ H a = some (.dK []) ∧ d = .dict [])
section
variable {X : Cx}
theorem call_repr (hG : X.A.guards = some []) (hu : X.A.units + 64 < cLine) :
    CallR X (.builtin "repr") (fun xs H Q => ∃ v d, xs = [v] ∧ Sh X.K H v d ∧ NiceD d ∧ Q (.str d.shown) H) := by
  intro pins s σ H xs us Q I r h
  obtain ⟨v, d, rfl, hd, ⟨n1, n2, n3⟩, q⟩ := h
  cases r with
  | cons r1 r2 =>
    cases r2
    rename_i u
    rcases hd with ⟨hd, nd⟩ | ⟨a, rfl, ha, rfl⟩
    · obtain ⟨as, rd⟩ := Dp.reads I d v u hd r1
      have out : ∀ (h' : Heap) (w : Tok) (tk : Nat), (∀ b o, s.heap.get? b = some o → h'.get? b = some o) →
          EP X pins σ Q (.str d.shown w) { s with heap := h', toks := tk } :=
        fun h' w tk kp => ⟨.str d.shown, H, I.kept kp, ⟨w, rfl⟩, q⟩
      cases rd with
      | none => exact P.repr_of_none (out s.heap _ _ fun _ _ e => e)
      | bool b => exact P.repr_of_bool (out s.heap _ _ fun _ _ e => e)
      | int i t => exact P.repr_of_int (by simpa [PyData.showable] using n1) (out s.heap _ _ fun _ _ e => e)
      | str z t => exact P.repr_of_str (out s.heap _ _ fun _ _ e => e) n3
      | list h1 h2 h3 h4 =>
        exact repr_of_reads' (.list h1 h2 h3 h4) n1 (PyData.noDict_hsm nd) hG (by omega) (fun _ _ e => e) out n3
      | tuple h1 h2 h3 h4 =>
        exact repr_of_reads' (.tuple h1 h2 h3 h4) n1 (PyData.noDict_hsm nd) hG (by omega) (fun _ _ e => e) out n3
      | dict h1 h2 h3 h4 h5 => simp [PyData.hasDict] at nd
    · cases r1
      obtain ⟨_, hs, vs, kv, o, es, ep, h1, h2, h3, _, pr, _⟩ := I.hok a _ ha
      cases kv
      have e0 : es.toList = [] := by
        generalize es.toList = l at pr
        cases pr
        rfl
      refine repr_of_reads' (d := .dict []) (as := a :: [] ++ []) (.dict (kvs := []) h1 h2.1 h3 ?_ ?_) n1 (fun _ => ?_) hG
        (by omega) (fun _ _ e => e) (fun h' w tk kp => ⟨.str _, H, I.kept kp, ⟨w, rfl⟩, q⟩) n3
      · rw [e0]
        exact .nil
      · rw [e0]
        exact .nil
      · intro hm
        have : sysModules = a := by simpa using hm
        rw [this] at hs
        simp at hs
end
end FL
namespace FL
open PySem PySem.Spec PyProof.Rows L2
/-! ### zip of two texts, a target of two names -/
def ItS (x y : Str) : It :=
  ⟨fun i _ => i < min x.cps.size y.cps.size,
   fun i H v H' => ∃ T a b, v = .ref T ∧ H T = none ∧ H' = upd H T (.tup [.str ⟨#[a]⟩, .str ⟨#[b]⟩])
      ∧ x.cps[i]? = some a ∧ y.cps[i]? = some b,
   fun i _ => i = min x.cps.size y.cps.size⟩
def zSt (x y : Str) (t u : Tok) (z TI TO i1 i2 : Addr) (i : Nat) (h : Heap) : Prop :=
  IsZip h z TI TO .none ∧ IsTupOf2 h TI (.ref i1) (.ref i2) ∧ (∃ a b, IsTupOf2 h TO a b)
    ∧ h.IsStrIter i1 (strIterType x) x t i ∧ h.IsStrIter i2 (strIterType y) y u i
theorem turn_zipS {P : Program} {w : World} {K : PySem.W.Frag} {elts : List Expr} {kk : Nat} {tpos : Pos}
    {x y : Str} {t u : Tok} {z TI TO i1 i2 : Addr} (S : ZipSep2 z TI TO i1 i2 [i1] [i2]) :
    Turn P w K (.Tuple elts kk tpos) (ItS x y) [z, TI, TO, i1, i2] z (zSt x y t u z TI TO i1 i2) where
  mem := by simp
  obj := by
    rintro i h ⟨hz, hT, ⟨a, b, hO⟩, s1, s2⟩ c hc
    have e' : c = z ∨ c = TI ∨ c = TO ∨ c = i1 ∨ c = i2 := by simpa using hc
    rcases e' with rfl | rfl | rfl | rfl | rfl
    · exact ⟨_, hz, fun v q => nomatch q⟩
    · exact ⟨_, hT, fun v q => nomatch q⟩
    · exact ⟨_, hO, fun v q => nomatch q⟩
    · obtain ⟨o, e, d⟩ := s1
      exact ⟨_, e, fun v q => by simp_all⟩
    · obtain ⟨o, e, d⟩ := s2
      exact ⟨_, e, fun v q => by simp_all⟩
  keep := by
    rintro i h h' ⟨hz, hT, ⟨a, b, hO⟩, s1, s2⟩ k
    refine ⟨k z (by simp) _ hz, k TI (by simp) _ hT, ⟨a, b, k TO (by simp) _ hO⟩, ?_, ?_⟩
    · obtain ⟨o, e, d⟩ := s1
      exact ⟨o, k i1 (by simp) o e, d⟩
    · obtain ⟨o, e, d⟩ := s2
      exact ⟨o, k i2 (by simp) o e, d⟩
  item := by
    intro X hP hw hK hc i pins s σ H E I hf st hg
    subst hP hw hK
    obtain ⟨hz, hT, ⟨a, b, hO⟩, s1, s2⟩ := st
    have hh : X.A.in1.handled = none := I.ok.hd hc
    have hg' : i < min x.cps.size y.cps.size := hg
    have zl := Heap.lt_size hz
    refine wpAny_pyNext_zipD2_item S (Draws.text hh i1 x t) (Draws.text hh i2 y u) hz hT hO s1 s2 (by omega) (by omega) ?_
    rintro v1 v2 h' tk ⟨c1, t1, e1, rfl⟩ ⟨c2, t2, e2, rfl⟩ z1 o1 r1 r2 nT sz kp
    refine ⟨_, rfl, wpAny_letOwnedTupleGo_zip (s := { s with heap := h', toks := tk }) z1 fun h2 z2 sb => ?_⟩
    have nz : (s.heap.objs.size : Addr) ≠ z := Nat.ne_of_gt zl
    have nT2 : h2.get? s.heap.objs.size = some { cls := .type "tuple", data := .seq #[.str ⟨#[c1]⟩ t1, .str ⟨#[c2]⟩ t2] } :=
      (sb.2 _ nz).trans nT
    have ok : ObjOk X.prog X.w (upd H s.heap.objs.size (.tup [.str ⟨#[c1]⟩, .str ⟨#[c2]⟩])) h2 s.heap.objs.size
        (.tup [.str ⟨#[c1]⟩, .str ⟨#[c2]⟩]) :=
      ⟨(by show 2 ≤ sizeLine; decide), [_, _], .cons ⟨t1, rfl⟩ (.cons ⟨t2, rfl⟩ .nil), ⟨_, nT2, rfl, _, rfl⟩⟩
    have J := I.turnedNew (t' := tk) (ch := [z, TI, TO, i1, i2]) (h' := h2) (fun c o nc q => (sb.2 c fun q' => nc (by simp [q'])).trans
      (kp c o (fun q' => nc (by simp [q'])) (fun q' => nc (by simp [q'])) (fun q' => nc (by simp [q'])) (fun q' => nc (by simp [q'])) q)) hf (Nat.le_refl _) ok
    refine ⟨.ref s.heap.objs.size, _, J, rfl, ⟨_, c1, c2, rfl, I.hok.fresh (Nat.le_refl _), rfl, e1, e2⟩, ⟨z2, ?_, ⟨_, _, (sb.2 _ S.TOz).trans o1⟩, ?_, ?_⟩, ?_⟩
    · exact (sb.2 _ S.TIz).trans (kp _ _ S.TIz S.TITO S.TIi1 S.TIi2 hT)
    · obtain ⟨o, e, d⟩ := r1
      exact ⟨o, (sb.2 _ (Ne.symm S.zi1)).trans e, d⟩
    · obtain ⟨o, e, d⟩ := r2
      exact ⟨o, (sb.2 _ (Ne.symm S.zi2)).trans e, d⟩
    · intro c hcm
      have live : ∃ o, s.heap.get? c = some o := by
        have e' : c = z ∨ c = TI ∨ c = TO ∨ c = i1 ∨ c = i2 := by simpa using hcm
        rcases e' with rfl | rfl | rfl | rfl | rfl
        · exact ⟨_, hz⟩
        · exact ⟨_, hT⟩
        · exact ⟨_, hO⟩
        · exact ⟨_, s1.choose_spec.1⟩
        · exact ⟨_, s2.choose_spec.1⟩
      obtain ⟨o, e⟩ := live
      rw [upd_ne (Nat.ne_of_lt (Heap.lt_size e))]
      exact (hf c hcm).1
  done := by
    intro X hP hw hK hc i pins s σ H E I hf st hg
    subst hP hw hK
    obtain ⟨hz, hT, ⟨a, b, hO⟩, s1, s2⟩ := st
    have hh : X.A.in1.handled = none := I.ok.hd hc
    have hg' : i = min x.cps.size y.cps.size := hg
    refine wpAny_pyNext_zipD2_end S (Draws.text hh i1 x t) (Draws.text hh i2 y u) hz hT hO s1 s2 (by omega) (by omega) (by omega) ?_
    intro h' tk kp
    exact ⟨rfl, I.turnedL (t' := tk) (ch := [z, TI, TO, i1, i2]) (fun c o nc q =>
      kp c o (fun q' => nc (by simp [q'])) (fun q' => nc (by simp [q'])) (fun q' => nc (by simp [q'])) (fun q' => nc (by simp [q'])) q) hf⟩
  self := fun A i s Q E st h => wpAny_pyIter_zip st.1 h
def iZipS (ta : TA) : TI := fun σ H R => ta σ H fun vs H1 => ∃ x y, vs = [.str x, .str y] ∧ R (ItS x y) H1
theorem pi_zipS {X : Cx} {e e2 : Expr} {ta : TA} {p pos tpos : Pos} {elts : List Expr} {kk : Nat} (hg : Gl X "zip")
    (hm : X.mg "zip" = none) (ha : PA X [e, e2] ta)
    (hs : starEach [e, e2] X.env = (false, eval e X.env) :: starEach [e2] X.env := by rfl)
    (hpl : (backTo pos (starEach [e2] X.env)).any (·.1) = false := by rfl) :
    PI X (.Tuple elts kk tpos) (.Call (.Name "zip" p) [e, e2] [] pos) (iZipS ta) := by
  constructor
  intro pins s σ H R I h
  refine Call_ (ld_blt I hg hm PyProof.Rows.boot_zip (PyProof.Rows.callWith_type1 (thn (ha.run pos pins s σ H _ I h) ?_) hs hpl))
  rintro us s1 ⟨vs, H1, J, r, x, y, rfl, q⟩
  obtain ⟨u1, u2, rfl, ⟨t1, rfl⟩, ⟨t2, rfl⟩⟩ := vals2 r
  refine zip_begins2 (begins_text x t1) (begins_text y t2) trivial trivial ?_
  intro h' hz hT hO g1 g2 sz kp
  refine wpAny_pyIter_zip hz ?_
  have J2 : Inv X pins σ H1 { s1 with heap := h' } := J.kept (t' := s1.toks) kp
  refine ⟨_, _, _, ItS x y, H1, rfl, J2, turn_zipS (zip_sep2 (fp1 := []) (fp2 := []) (fun _ z => nomatch z) (fun _ z => nomatch z)),
    ⟨hz, hT, ⟨_, _, hO⟩, ⟨_, g1, rfl, rfl⟩, ⟨_, g2, rfl, rfl⟩⟩, fun c hcm => ?_, q⟩
  have hle : s1.heap.objs.size ≤ c := by
    have e' : c = s1.heap.objs.size + 4 ∨ c = s1.heap.objs.size + 2 ∨ c = s1.heap.objs.size + 3 ∨ c = s1.heap.objs.size ∨ c = s1.heap.objs.size + 1 := by
      simpa using hcm
    rcases e' with z | z | z | z | z <;> rw [z] <;> first | exact Nat.le_add_right _ _ | exact Nat.le_refl _
  exact J.fpOk hle (J.hok.fresh hle)
end FL
namespace FL
open PySem PySem.Spec PyProof.Rows L2
/-! ### values of any kind -/
inductive Any (H : Hp) : V → String → Prop
  | non : Any H .non "NoneType"
  | bl (b : Bool) : Any H (.bl b) "bool"
  | int (i : Int) : Any H (.int i) "int"
  | str (z : Str) : Any H (.str z) "str"
  | lst {a : Addr} {xs : List V} : H a = some (.lst xs) → Any H (.ref a) "list"
  | tup {a : Addr} {xs : List V} : H a = some (.tup xs) → Any H (.ref a) "tuple"
  | dct {a : Addr} {kvs : List (Key × V)} : H a = some (.dK kvs) → Any H (.ref a) "dict"
def kinds : List String := ["NoneType", "bool", "int", "str", "list", "tuple", "dict"]
def asked : List String := ["int", "bool", "str", "list", "tuple", "dict"]
def subB (n T : String) : Bool := n == T || (n == "bool" && T == "int")
theorem Any.kind {H : Hp} {v : V} {n : String} (h : Any H v n) : n ∈ kinds := by cases h <;> decide
theorem Any.tyx {K : PySem.W.Frag} {H : Hp} {v : V} {n : String} (h : Any H v n) : TyX K H v (.type n) := by
  cases h with
  | non => exact .base .non
  | bl b => exact .base (.bl b)
  | int i => exact .base (.int i)
  | str z => exact .base (.str z)
  | lst e => exact .base (.lst e)
  | tup e => exact .base (.tup e)
  | dct e => exact .base (.dK e)
theorem kit_all : (kinds.all fun n => asked.all fun T => decide (kitB n T = some (subB n T))) = true := by decide +kernel
theorem kit_any {n T : String} (hn : n ∈ kinds) (hT : T ∈ asked) : kitB n T = some (subB n T) := by
  have h := List.all_eq_true.mp kit_all n hn
  exact of_decide_eq_true (List.all_eq_true.mp h T hT)
section
variable {X : Cx}
theorem call_isA : CallR X (.builtin "isinstance") (fun xs H Q => ∃ x n T, xs = [x, .ty T] ∧ Any H x n ∧ T ∈ asked ∧ Q (.bl (subB n T)) H) := by
  intro pins s σ H xs us Q I r h
  obtain ⟨x, n, T, rfl, a, hT, q⟩ := h
  exact call_isi pins s σ H _ us Q I r ⟨x, .ty T, _, _, _, rfl, .ty T, a.tyx, kit_ty (kit_any a.kind hT), q⟩
end
theorem Any.same {H H' : Hp} {v : V} {n : String} (h : Any H v n) (e : ∀ a o, v = .ref a → H a = some o → H' a = some o) : Any H' v n := by
  cases h with
  | non => exact .non
  | bl b => exact .bl b
  | int i => exact .int i
  | str z => exact .str z
  | lst q => exact .lst (e _ _ rfl q)
  | tup q => exact .tup (e _ _ rfl q)
  | dct q => exact .dct (e _ _ rfl q)
/-! ### lines -/
def lineB (sg : Str) : V → Bool
  | .str z => decide (Txt.stripChars z sg = (Str.ofString ""))
  | _ => false
/-- texts are not too long -/
def Short (v : V) : Prop := ∀ z, v = .str z → z.length ≤ sizeLine
def spLine : Sp := fun vs H Q _ => ∃ (sg : Str) (v : V) (n : String), vs = [.str sg, v] ∧ Any H v n ∧ Short v ∧ Q (.bl (lineB sg v)) H
end FL
namespace FL
open PySem PySem.Spec PyProof.Rows L2
/-! ### the pot -/
def PotAt (H : Hp) (p : Addr) : Prop :=
  ∃ a b : Int, H p = some (.lst [.int a, .int b]) ∧ 0 ≤ a ∧ 0 ≤ b ∧ b ≤ 2147483646
/-- all but p is as it was -/
def But (p : Addr) (H H' : Hp) : Prop := ∀ c o, H c = some o → c ≠ p → H' c = some o
theorem But.refl (p : Addr) (H : Hp) : But p H H := fun _ _ e _ => e
theorem But.trans {p : Addr} {H H1 H2 : Hp} (a : But p H H1) (b : But p H1 H2) : But p H H2 :=
  fun c o e n => b c o (a c o e n) n
theorem But.same {p : Addr} {H H1 H2 : Hp} (a : But p H H1) (b : Same H1 H2) : But p H H2 :=
  fun c o e n => b c o (a c o e n)
theorem _root_.L2.Same.but {p : Addr} {H H1 : Hp} (a : Same H H1) : But p H H1 := fun c o e _ => a c o e
def spDraw : Sp := fun vs H Q _ => ∃ (p : Addr) (n : Int), vs = [.ref p, .int n] ∧ PotAt H p ∧ 0 < n ∧ n < 1073741824 ∧
  ∀ (d : Int) (H' : Hp), 0 ≤ d → d < n → PotAt H' p → But p H H' → Q (.int d) H'
end FL
namespace FL
open PySem PySem.Spec PyProof.Rows L2
theorem But.sqL {K : PySem.W.Frag} {p q : Addr} {H H' : Hp} {xs : List V} (b : But p H H') (n : q ≠ p) (h : SqL K H q xs) : SqL K H' q xs := by
  rcases h with (h | ⟨o, h⟩) | h
  · exact .inl (.inl (b _ _ h n))
  · exact .inl (.inr ⟨o, b _ _ h n⟩)
  · exact .inr h
def spPick (K : PySem.W.Frag) : Sp := fun vs H Q _ => ∃ (p : Addr) (v : V), vs = [.ref p, v] ∧ PotAt H p ∧
  ((∃ (q : Addr) (xs : List V), v = .ref q ∧ q ≠ p ∧ SqL K H q xs ∧ 0 < xs.length ∧ xs.length ≤ 1000 ∧
      ∀ (x : V) (H' : Hp), x ∈ xs → PotAt H' p → But p H H' → Q x H')
    ∨ (∃ z : Str, v = .str z ∧ 0 < z.length ∧ z.length ≤ 1000 ∧
      ∀ (c : Nat) (H' : Hp), c ∈ z.cps.toList → PotAt H' p → But p H H' → Q (.str ⟨#[c]⟩) H'))
def spPot (K : PySem.W.Frag) : Sp := fun vs H Q _ => ∃ (a : Addr) (ns : List Int) (k : Int), vs = [.ref a, .int k] ∧ SqL K H a (ns.map V.int) ∧ 0 ≤ k ∧ k < 64 ∧ ns.length ≤ 63 ∧
  ∀ (p : Addr) (H' : Hp), H p = none → PotAt H' p → Same H H' → Q (.ref p) H'
theorem atI_lt {α : Type} {xs : List α} {d : Int} (h0 : 0 ≤ d) (h1 : d < (xs.length : Int)) : ∃ x, x ∈ xs ∧ atI xs d = some x := by
  have hl : d.toNat < xs.length := by omega
  refine ⟨xs[d.toNat], List.getElem_mem hl, ?_⟩
  have e := atI_nat (List.getElem?_eq_getElem hl)
  rw [show ((d.toNat : Nat) : Int) = d by omega] at e
  exact e
theorem str_len (z : Str) : z.length = z.cps.toList.length := by
  show z.cps.size = _
  simp
end FL
namespace FL
open PySem PySem.Spec PyProof.Rows L2
theorem sqL_upd {K : PySem.W.Frag} {q B : Addr} {H : Hp} {xs : List V} {o : HO} (h : SqL K H q xs) (n : H B = none) : SqL K (upd H B o) q xs := by
  rcases h with (h | ⟨u, h⟩) | h
  · exact .inl (.inl (by rw [upd_ne (ne_of_none h n)]; exact h))
  · exact .inl (.inr ⟨u, by rw [upd_ne (ne_of_none h n)]; exact h⟩)
  · exact .inr h
/-- what len asks -/
def rLen (K : PySem.W.Frag) : List V → Hp → VK → Prop := fun xs H Q => ∃ x n, xs = [x] ∧ LenV K x H n ∧ Q (.int n) H
theorem callLen {X : Cx} : CallR X (.builtin "len") (rLen X.K) := call_len
/-- a text of signs of z -/
def Over (z y : Str) : Prop := ∀ c ∈ y.cps.toList, c ∈ z.cps.toList
def spNote : Sp := fun vs H Q _ => ∃ (p : Addr) (z : Str) (m : Int), vs = [.ref p, .str z, .int m] ∧ PotAt H p ∧ 0 < z.length ∧ z.length ≤ 1000 ∧ 0 ≤ m ∧ m ≤ 1000 ∧
  ∀ (y : Str) (H' : Hp), Over z y → (y.length : Int) ≤ m → PotAt H' p → But p H H' → Q (.str y) H'
theorem PotAt.upd {H : Hp} {p q : Addr} {o : HO} (h : PotAt H p) (n : p ≠ q) : PotAt (upd H q o) p := by
  obtain ⟨a, b, e, r⟩ := h
  exact ⟨a, b, by rw [upd_ne n]; exact e, r⟩
theorem PotAt.ne {H : Hp} {p q : Addr} (h : PotAt H p) (n : H q = none) : p ≠ q := by
  obtain ⟨a, b, e, r⟩ := h
  exact ne_of_none e n
theorem But.upd {p q : Addr} {H H1 : Hp} {o : HO} (b : But p H H1) (n : H q = none) : But p H (upd H1 q o) := fun c u e hc => by
  rw [upd_ne (ne_of_none e n)]
  exact b c u e hc
theorem But.new {p q : Addr} {H H1 : Hp} (b : But p H H1) (hp : PotAt H p) (n : H1 q = none) (hp1 : PotAt H1 p) : H q = none := by
  cases e : H q with
  | none => rfl
  | some o =>
    by_cases hq : q = p
    · subst hq
      obtain ⟨_, _, z, _⟩ := hp1
      rw [z] at n
      cases n
    · rw [b q o e hq] at n
      cases n
theorem join_list (ys : List Str) : (Str.join (Str.ofString "") ys).cps.toList = (ys.map fun y => y.cps.toList).flatten := by
  have e0 : (Str.ofString "").cps.toList = [] := by decide +kernel
  induction ys with
  | nil => rfl
  | cons x r ih =>
    cases r with
    | nil => simp [Str.join]
    | cons y r =>
      show (x ++ Str.ofString "" ++ Str.join (Str.ofString "") (y :: r)).cps.toList = _
      rw [Str.cps_append, Str.cps_append, Array.toList_append, Array.toList_append, ih, e0]
      simp
theorem Str_ext {a b : Str} (h : a.cps.toList = b.cps.toList) : a = b := by
  obtain ⟨a⟩ := a
  obtain ⟨b⟩ := b
  congr 1
  exact Array.toList_inj.mp h
theorem txtjoin_list (ys : List Str) : (Txt.join (Str.ofString "") ys).cps.toList = (ys.map fun y => y.cps.toList).flatten := by
  rw [← join_list]
  unfold Txt.join
  rw [StrLaws.glued_eq_join]
theorem join_signs (cs : List Nat) : Txt.join (Str.ofString "") (cs.map fun c => (⟨#[c]⟩ : Str)) = ⟨cs.toArray⟩ := by
  apply Str_ext
  rw [txtjoin_list, List.map_map]
  show (cs.map fun c => [c]).flatten = cs
  induction cs with
  | nil => rfl
  | cons c cs ih => rw [List.map_cons, List.flatten_cons, ih]; rfl
end FL
namespace FL
open PySem PySem.Spec PyProof.Rows L2
/-! ### texts: list(z), z * n, z[::-1] -/
def sign (c : Nat) : V := .str ⟨#[c]⟩
section
variable {X : Cx}
theorem vals_signs {z : Str} {acc : Array Value} (h : ItemsOf (SignAt z) acc z.cps.size) : Vals (z.cps.toList.map sign) acc.toList := by
  obtain ⟨h1, h2⟩ := h
  have key : ∀ (l : List Nat) (vs : List Value), l.length = vs.length →
      (∀ (i : Nat) (c : Nat) (v : Value), l[i]? = some c → vs[i]? = some v → ∃ u, v = .str ⟨#[c]⟩ u) → Vals (l.map sign) vs := by
    intro l
    induction l with
    | nil =>
      intro vs hl _
      cases vs with
      | nil => exact .nil
      | cons _ _ => simp at hl
    | cons c l ih =>
      intro vs hl hv
      cases vs with
      | nil => simp at hl
      | cons v vs =>
        obtain ⟨u, rfl⟩ := hv 0 c v rfl rfl
        exact .cons ⟨u, rfl⟩ (ih vs (by simpa using hl) fun i c v a b => hv (i + 1) c v (by simpa using a) (by simpa using b))
  refine key _ _ (by simp [h1]) fun i c v a b => ?_
  obtain ⟨c', u, e1, e2⟩ := h2 i v (by simpa using b)
  have : c' = c := by
    have a' : z.cps[i]? = some c := by simpa using a
    rw [e1] at a'
    exact Option.some.inj a'
  exact ⟨u, this ▸ e2⟩
theorem call_list_txt (hc : X.calm = true) : CallR X (.type "list") (fun xs H Q => ∃ z, xs = [.str z] ∧ z.length ≤ sizeLine ∧
    ∀ l, H l = none → Q (.ref l) (upd H l (.lst (z.cps.toList.map sign)))) := by
  intro pins s σ H xs us Q I r h
  obtain ⟨z, rfl, hz, q⟩ := h
  obtain ⟨u, rfl, t, rfl⟩ := vals1 r
  refine call_list_str (I.ok.hd hc) z t ?_ hz
  intro h' tk acc n kp hS hacc
  refine ⟨.ref s.heap.objs.size, _, I.laid (t' := tk) (o := .lst (z.cps.toList.map sign)) kp (Nat.le_refl _) ?_, rfl, q _ (I.hok.fresh (Nat.le_refl _))⟩
  refine ⟨by rw [List.length_map, Array.length_toList]; exact hz, acc.toList, n, vals_signs hacc, ?_⟩
  rw [hS]
def repS (z : Str) (n : Nat) : Str := ⟨(List.replicate n z.cps).foldl (· ++ ·) #[]⟩
theorem foldl_app (l : List (Array Nat)) : ∀ a : Array Nat, (l.foldl (· ++ ·) a).toList = a.toList ++ (l.map Array.toList).flatten := by
  induction l with
  | nil => intro a; simp
  | cons b l ih => intro a; rw [List.foldl_cons, ih]; simp
theorem repS_list (z : Str) (n : Nat) : (repS z n).cps.toList = (List.replicate n z.cps.toList).flatten := by
  unfold repS
  rw [foldl_app]
  simp
theorem repS_len (z : Str) (n : Nat) : (repS z n).length = n * z.length := by
  rw [str_len, repS_list, str_len]
  induction n with
  | zero => simp
  | succ n ih => rw [List.replicate_succ, List.flatten_cons, List.length_append, ih, Nat.succ_mul, Nat.add_comm]
theorem repS_mem {z : Str} {n c : Nat} (h : c ∈ (repS z n).cps.toList) : c ∈ z.cps.toList := by
  rw [repS_list] at h
  obtain ⟨l, hl, hc⟩ := List.mem_flatten.mp h
  rw [List.eq_of_mem_replicate hl] at hc
  exact hc
theorem op_mul_str : OpR X (binaryOp .Mult) (fun x y H Q => ∃ z n, x = .str z ∧ y = .int n ∧ 2 ≤ n ∧ n ≤ 10000 ∧ 0 < z.length ∧ z.length ≤ 1000 ∧ Q (.str (repS z n.toNat)) H) := by
  intro pins s σ H x y v u Q I rx ry h
  obtain ⟨z, n, rfl, rfl, n0, n1, z0, z1, q⟩ := h
  obtain ⟨t, rfl⟩ := rx
  obtain ⟨t', rfl⟩ := ry
  have b1 : (n == 1 || z.length == 0) = false := by
    have e1 : (n == 1) = false := by simp; omega
    have e2 : (z.length == 0) = false := by simp; omega
    rw [e1, e2]
    rfl
  have b2 : z.length * n.toNat ≤ 10000000 := by
    have : z.length * n.toNat ≤ 1000 * 10000 := Nat.mul_le_mul z1 (by omega)
    omega
  have sz : sizeLine = 16777216 := rfl
  refine P.mul_str ?_ ?_ ?_ ?_
  · rw [decide_eq_false (show ¬ n < -(2 ^ 63 : Int) by omega), decide_eq_false (show ¬ n ≥ 2 ^ 63 by omega)]
    rfl
  · intro _ _
    have e : (1000 : Int) ≤ (2 ^ 63 - 1) / n := by
      rw [Int.le_ediv_iff_mul_le (by omega)]
      omega
    omega
  · intro _ _
    show decide (z.length * n.toNat > sizeLine) = false
    exact decide_eq_false (by omega)
  · rw [if_neg (by omega), if_neg (by rw [b1]; decide)]
    refine ⟨?_, .str (repS z n.toNat), H, I.tok _, ⟨_, rfl⟩, q⟩
    show (repS z n.toNat).length ≤ sizeLine
    rw [repS_len, Nat.mul_comm]
    omega
def tRevS (te : TE) : TE := fun σ H Q => te σ H fun x H1 => ∃ z, x = .str z ∧ z.length ≤ sizeLine ∧
  Q (.str ⟨z.cps.toList.reverse.toArray⟩) H1
theorem pe_revS {e : Expr} {te : TE} {k : Nat} {p1 p2 p3 pos : Pos} (he : PE X e te) :
    PE X (.Subscript e (.Slice none none (some (.UnaryOp .USub (.Constant (.int 1) k p1) p2)) p3) pos) (tRevS te) := by
  constructor
  intro pins s σ H Q I h
  refine Subscript_ (thn (he.run pins s σ H _ I h) ?_)
  rintro v s1 ⟨x, H1, J, r, z, rfl, hz, q⟩
  obtain ⟨t, rfl⟩ := r
  have hst : PO X (some (.UnaryOp .USub (.Constant (.int 1) k p1) p2)) (tPart (tUn (rU fun i => .int (-i)) (tC (.int 1)))) :=
    po_some (pe_un un_neg pe_int)
  refine wpAny_Slice (thn (po_none.run pins s1 σ H1 (fun o H2 => o = none ∧ H2 = H1) J ⟨rfl, rfl⟩) ?_)
  rintro vl s2 ⟨l, H2, J2, pl, rfl, rfl⟩
  refine thn (po_none.run pins s2 σ _ (fun o H3 => o = none ∧ H3 = H2) J2 ⟨rfl, rfl⟩) ?_
  rintro vu s3 ⟨u, H3, J3, pu, rfl, rfl⟩
  refine thn (hst.run pins s3 σ _ (fun o H4 => o = some (-1) ∧ H4 = H3) J3 ⟨1, rfl, -1, rfl, rfl, rfl⟩) ?_
  rintro vs s4 ⟨o, H4, J4, ps, rfl, rfl⟩
  obtain ⟨l', rfl, el⟩ := IsPart.raw pl
  obtain ⟨u', rfl, eu⟩ := IsPart.raw pu
  obtain ⟨s', rfl, es⟩ := IsPart.raw ps
  have J5 : Inv X pins σ H4 { s4 with heap := s4.heap.push { cls := .type "slice", data := .fields #[partValue l', partValue u', partValue s'] } } :=
    J4.kept (t' := s4.toks) fun b ob q => Heap.get?_push_of_some _ q
  refine tail_any (ops := [.str z t, .ref s4.heap.objs.size]) (typeIs_str _ _ _) F.slot_str_getitem.lookup ?_ (by with_unfolding_all rfl)
  refine wpAny_getItem_str_slice (l := l') (u := u') (st := s') ⟨_, Heap.get?_push_size _ rfl, rfl, rfl⟩ (by rw [es]; rfl) ?_
  have e1 : slicePicked z l' u' s' = (List.range z.length).map fun k => z.length - 1 - k := by
    unfold slicePicked
    rw [el, eu, es]
    exact PySem.W.krv_sliceRange z.length
  unfold sliceMade
  rw [es, if_neg (by simp), e1]
  have e2 : (((List.range z.length).map fun k => z.length - 1 - k).filterMap (z.cps[·]?)) = z.cps.toList.reverse := by
    rw [PySem.W.krv_range, List.filterMap_reverse]
    have := PySem.W.krv_all z.cps
    rw [show z.length = z.cps.size from rfl, this]
  rw [e2]
  refine ⟨?_, .str _, H4, J5.tok _, ⟨_, rfl⟩, q⟩
  show (z.cps.toList.reverse.toArray).size ≤ sizeLine
  rw [List.size_toArray, List.length_reverse, Array.length_toList]
  exact hz
theorem mtPopAt : MtR X "list.pop" rPopAt := mt_popAt
theorem mtAppend : MtR X "list.append" rAppend := mt_append
theorem mtExtend : MtR X "list.extend" rExtend := mt_extend
theorem mtReverse : MtR X "list.reverse" rReverse := mt_reverse
theorem mtClear : MtR X "list.clear" rClear := mt_clear
end
end FL
namespace FL
open PySem PySem.Spec PyProof.Rows L2
/-! ### signs -/
def poolCodes : List Nat := "-.0123456789=>abcdefghijklmnopqrstuvwxyz|".toList.map (·.toNat)
structure Abc (z : Str) : Prop where
  lo : 2 ≤ z.length
  hi : z.length ≤ 4
  up : z.cps.toList.Pairwise (· < ·)
  inn : ∀ c ∈ z.cps.toList, c ∈ poolCodes
theorem perm_erase {α : Type} : ∀ (xs : List α) (i : Nat) (h : i < xs.length), (xs[i] :: xs.eraseIdx i).Perm xs
  | [], _, h => absurd h (by simp)
  | x :: xs, 0, _ => List.Perm.refl _
  | x :: xs, i + 1, h => by
    have ih := perm_erase xs i (by simpa using h)
    have hi : i < xs.length := by simpa using h
    show (xs[i] :: x :: xs.eraseIdx i).Perm (x :: xs)
    exact (List.Perm.swap _ _ _).trans (ih.cons x)
theorem erase_map {α β : Type} (f : α → β) : ∀ (xs : List α) (i : Nat), (xs.map f).eraseIdx i = (xs.eraseIdx i).map f
  | [], _ => rfl
  | _ :: _, 0 => rfl
  | x :: xs, i + 1 => by
    show f x :: (xs.map f).eraseIdx i = f x :: (xs.eraseIdx i).map f
    rw [erase_map f xs i]
def one (c : Nat) : Str := ⟨#[c]⟩
theorem one_inj {a b : Nat} (h : one a = one b) : a = b := by
  have := congrArg (fun s : Str => s.cps.toList) h
  simpa [one] using this
theorem map_one {ys : List Str} {cs : List Nat} (h : ys.Perm (cs.map one)) : ∃ ds : List Nat, ys = ds.map one ∧ ds.Perm cs := by
  have hall : ∀ y ∈ ys, ∃ c, y = one c := fun y hy => by
    obtain ⟨c, _, e⟩ := List.mem_map.mp (h.mem_iff.mp hy)
    exact ⟨c, e.symm⟩
  have hd : ∃ ds : List Nat, ys = ds.map one := by
    clear h
    induction ys with
    | nil => exact ⟨[], rfl⟩
    | cons y ys ih =>
      obtain ⟨c, rfl⟩ := hall y List.mem_cons_self
      obtain ⟨ds, rfl⟩ := ih fun y hy => hall y (List.mem_cons_of_mem _ hy)
      exact ⟨c :: ds, rfl⟩
  obtain ⟨ds, rfl⟩ := hd
  refine ⟨ds, rfl, ?_⟩
  have key : ∀ l : List Nat, (l.map one).map (fun s : Str => s.cps.toList.headD 0) = l := fun l => by
    rw [List.map_map]
    conv => rhs; rw [← List.map_id l]
    apply List.map_congr_left
    intro c _
    rfl
  have := h.map (fun s : Str => s.cps.toList.headD 0)
  rwa [key, key] at this
theorem lt_one (a b : Nat) : ltCps [a] [b] = decide (a < b) := by
  unfold ltCps
  by_cases h : a < b
  · simp [h, ltCps]
  · simp [h, ltCps]
theorem rising_one : ∀ (ds : List Nat) (a : Nat), risingS (one a) (ds.map one) = true → (∀ b ∈ ds, a ≤ b) ∧ ds.Pairwise (· ≤ ·)
  | [], _, _ => ⟨(fun _ h => nomatch h), .nil⟩
  | b :: r, a, h => by
    have h' : (!ltCps [b] [a] && risingS (one b) (r.map one)) = true := h
    rw [Bool.and_eq_true] at h'
    obtain ⟨h1, h2⟩ := h'
    have hab : a ≤ b := by
      rw [lt_one] at h1
      simpa using h1
    obtain ⟨i1, i2⟩ := rising_one r b h2
    refine ⟨fun c hc => ?_, .cons i1 i2⟩
    rcases List.mem_cons.mp hc with rfl | hc
    · exact hab
    · exact Nat.le_trans hab (i1 c hc)
theorem sorted_one : ∀ (ds : List Nat), sortedS (ds.map one) = true → ds.Pairwise (· ≤ ·)
  | [], _ => .nil
  | a :: r, h => let ⟨i1, i2⟩ := rising_one r a h; .cons i1 i2
theorem strict {ds : List Nat} (h : ds.Pairwise (· ≤ ·)) (n : ds.Nodup) : ds.Pairwise (· < ·) := by
  induction ds with
  | nil => exact .nil
  | cons a r ih =>
    cases h with
    | cons h1 h2 =>
      obtain ⟨n1, n2⟩ := List.nodup_cons.mp n
      refine .cons (fun b hb => ?_) (ih h2 n2)
      have := h1 b hb
      have : a ≠ b := fun e => n1 (e ▸ hb)
      omega
theorem pool_nodup : poolCodes.Nodup := by decide +kernel
def spAbc : Sp := fun vs H Q _ => ∃ (p : Addr), vs = [.ref p, .int 4] ∧ PotAt H p ∧
  ∀ (z : Str) (H' : Hp), Abc z → PotAt H' p → But p H H' → Q (.str z) H'
end FL
namespace FL
open PySem PySem.Spec PyProof.Rows L2
/-! ### rules -/
structure Rule where
  fr : Bool
  old : Str
  new : Str
def kd : Bool → Str
  | true => Str.ofString "front"
  | false => Str.ofString "whole"
def ruleV (r : Rule) : List V := [.str (kd r.fr), .str r.old, .str r.new]
def RuleAt (H : Hp) (v : V) (r : Rule) : Prop := ∃ t, v = .ref t ∧ H t = some (.tup (ruleV r))
abbrev RulesAt (H : Hp) : List V → List Rule → Prop := Paired (RuleAt H)
structure RuleOk (z : Str) (b : Nat) (r : Rule) : Prop where
  o1 : Over z r.old
  o2 : r.old.length ≤ b
  n1 : Over z r.new
  n2 : r.new.length ≤ b
theorem RuleOk.mono {z : Str} {b c : Nat} {r : Rule} (h : RuleOk z b r) (l : b ≤ c) : RuleOk z c r := ⟨h.o1, Nat.le_trans h.o2 l, h.n1, Nat.le_trans h.n2 l⟩
theorem RulesAt.imp {H H' : Hp} : ∀ {xs : List V} {rs : List Rule}, RulesAt H xs rs → (∀ t a, H t = some (.tup a) → H' t = some (.tup a)) → RulesAt H' xs rs
  | _, _, .nil, _ => .nil
  | _, _, .cons ⟨t, e, h⟩ r, k => .cons ⟨t, e, k _ _ h⟩ (RulesAt.imp r k)
theorem But.tups {p : Addr} {H H' : Hp} (b : But p H H') (hp : PotAt H p) : ∀ t a, H t = some (.tup a) → H' t = some (.tup a) := fun t a e =>
  b t _ e fun q => by
    obtain ⟨_, _, z, _⟩ := hp
    rw [q, z] at e
    cases e
theorem over_app {z a b : Str} (h1 : Over z a) (h2 : Over z b) : Over z (a ++ b) := fun c hc => by
  rw [Str.cps_append, Array.toList_append] at hc
  exact (List.mem_append.mp hc).elim (h1 c) (h2 c)
theorem over_cut {z y : Str} (h : Over z y) (lo hi : Option Int) : Over z (cutS y lo hi) := fun c hc => by
  apply h c
  have h' : c ∈ ((y.cps.toList.drop (HT.sIx y.length 0 lo)).take (HT.sIx y.length y.length hi - HT.sIx y.length 0 lo)) := by
    simpa [cutS] using hc
  exact List.mem_of_mem_drop (List.mem_of_mem_take h')
theorem over_rev {z y : Str} (h : Over z y) : Over z ⟨y.cps.toList.reverse.toArray⟩ := fun c hc => h c (by simpa using hc)
theorem over_one {z : Str} {c : Nat} (h : c ∈ z.cps.toList) : Over z ⟨#[c]⟩ := fun d hd => by
  have : d = c := by simpa using hd
  rw [this]
  exact h
theorem len_app (a b : Str) : (a ++ b).length = a.length + b.length := Str.length_append a b
theorem len_rev (y : Str) : (⟨y.cps.toList.reverse.toArray⟩ : Str).length = y.length := by
  show (y.cps.toList.reverse.toArray).size = y.cps.size
  simp
theorem len_one (c : Nat) : (⟨#[c]⟩ : Str).length = 1 := rfl
def spDeals : Sp := fun vs H Q _ => ∃ (p : Addr) (z : Str) (lot most : Int), vs = [.ref p, .str z, .int lot, .int most] ∧ PotAt H p ∧ 0 < z.length ∧ z.length ≤ 1000 ∧
  0 ≤ lot ∧ lot ≤ 100 ∧ 0 ≤ most ∧ most ≤ 20 ∧
  ∀ (D : Addr) (xs : List V) (rs : List Rule) (H' : Hp), H D = none → H' D = some (.lst xs) → RulesAt H' xs rs → (rs.length : Int) ≤ lot →
    (∀ r ∈ rs, RuleOk z (most.toNat + 2) r) → PotAt H' p → But p H H' → Q (.ref D) H'
theorem paired_snoc {α β : Type} {R : α → β → Prop} : ∀ {xs : List α} {ys : List β} {x : α} {y : β}, Paired R xs ys → R x y → Paired R (xs ++ [x]) (ys ++ [y])
  | _, _, _, _, .nil, h => .cons h .nil
  | _, _, _, _, .cons a b, h => .cons a (paired_snoc b h)
theorem paired_len {α β : Type} {R : α → β → Prop} {xs : List α} {ys : List β} (h : Paired R xs ys) : xs.length = ys.length := Paired.length h
end FL
namespace FL
open PySem PySem.Spec PyProof.Rows L2
/-! ### turning -/
def fits (r : Rule) (y : Str) : Bool :=
  match r.fr with
  | true => decide (cutS y none (some (r.old.length : Int)) = r.old)
  | false => decide (y = r.old)
def turnR (r : Rule) (y : Str) : Str :=
  match r.fr with
  | true => r.new ++ cutS y (some (r.old.length : Int)) none
  | false => r.new
def turn : List Rule → Str → Str
  | [], y => y
  | r :: rs, y => if fits r y = true then turnR r y else turn rs y
def spTurn (K : PySem.W.Frag) : Sp := fun vs H Q _ => ∃ (D : Addr) (y : Str) (xs : List V) (rs : List Rule), vs = [.ref D, .str y] ∧ SqL K H D xs ∧ RulesAt H xs rs ∧
  y.length ≤ 100000 ∧ (∀ r ∈ rs, r.old.length ≤ 1000 ∧ r.new.length ≤ 1000) ∧ Q (.str (turn rs y)) H
theorem kd_ne : kd true ≠ kd false := by decide +kernel
theorem strV_ne {a b : Str} (h : a ≠ b) : ¬ (V.str a = V.str b) := fun e => h (V.str.inj e)
end FL
namespace FL
open PySem PySem.Spec PyProof.Rows L2
structure NoteOk (z : Str) (b : Nat) (y : Str) : Prop where
  ov : Over z y
  le : y.length ≤ b
def spNotes : Sp := fun vs H Q _ => ∃ (z : Str) (m : Int), vs = [.str z, .int m] ∧ 0 < z.length ∧ z.length ≤ 4 ∧ 0 ≤ m ∧ m ≤ 4 ∧
  ∀ (D : Addr) (ys : List Str) (H' : Hp), H D = none → H' D = some (.lst (ys.map V.str)) → (∀ y ∈ ys, NoteOk z m.toNat y) → ys.length ≤ 2000 → Same H H' → Q (.ref D) H'
theorem _root_.L2.Same.upd {H H1 : Hp} {q : Addr} {o : HO} (s : Same H H1) (n : H q = none) : Same H (upd H1 q o) := fun c u e => by
  rw [upd_ne (ne_of_none e n)]
  exact s c u e
theorem _root_.L2.Same.none {H H1 : Hp} {q : Addr} (s : Same H H1) (n : H1 q = Option.none) : H q = Option.none := s.free n
theorem pow_bound {n i : Nat} (h1 : n ≤ 4) (h2 : i ≤ 4) (h0 : 0 < n) : n ^ i ≤ 256 :=
  Nat.le_trans (Nat.pow_le_pow_left h1 i) (Nat.le_trans (Nat.pow_le_pow_right (by decide) h2) (by decide))
end FL
namespace FL
open PySem PySem.Spec PyProof.Rows L2
/-! ### data that can be shown and compared, of at most n signs -/
structure Sm (n : Nat) (d : PyData) : Prop where
  sh : d.showable = true
  nd : d.hasDict = false
  cl : d.canLay0 = true
  dp : d.depth ≤ 12
  len : d.shown.length ≤ n
structure SmL (k n : Nat) (ds : List PyData) : Prop where
  sh : PyData.showableAll ds = true
  nd : PyData.hasDictAll ds = false
  cl : PyData.canLayAll0 ds = true
  dp : PyData.depthAll ds ≤ k
  len : piled (PyData.shownAll ds) ≤ n
theorem Sm.shaped {n : Nat} {d : PyData} (h : Sm n d) : SeqAt.shaped d = true := by
  unfold SeqAt.shaped
  rw [h.cl, decide_eq_true (Nat.le_trans h.dp (by decide))]
  rfl
theorem Sm.nice {n : Nat} {d : PyData} (h : Sm n d) (hn : n ≤ sizeLine) : NiceD d := ⟨h.sh, Nat.le_trans h.dp (by decide), Nat.le_trans h.len hn⟩
theorem Sm.mono {n m : Nat} {d : PyData} (h : Sm n d) (l : n ≤ m) : Sm m d := ⟨h.sh, h.nd, h.cl, h.dp, Nat.le_trans h.len l⟩
theorem SmL.nil {k : Nat} : SmL k 0 [] := ⟨rfl, rfl, rfl, Nat.zero_le _, Nat.le_refl _⟩
theorem SmL.cons {k m n : Nat} {d : PyData} {ds : List PyData} (h : Sm m d) (hd : d.depth ≤ k) (r : SmL k n ds) : SmL k (m + 2 + n) (d :: ds) := by
  refine ⟨?_, ?_, ?_, ?_, ?_⟩
  · show (d.showable && PyData.showableAll ds) = true
    rw [h.sh, r.sh]
    rfl
  · show (d.hasDict || PyData.hasDictAll ds) = false
    rw [h.nd, r.nd]
    rfl
  · show (d.canLay0 && PyData.canLayAll0 ds) = true
    rw [h.cl, r.cl]
    rfl
  · show max d.depth (PyData.depthAll ds) ≤ k
    have := r.dp
    omega
  · show piled (d.shown :: PyData.shownAll ds) ≤ _
    rw [piled_cons]
    have := r.len
    have := h.len
    omega
theorem textFrom_le : ∀ (ts : List Str) (k : Nat) (acc : Str), (textFrom k acc ts).length ≤ acc.length + piled ts
  | [], k, acc => Nat.le_add_right _ _
  | t :: r, k, acc => by
    have h := textFrom_le r (k + 1) (acc ++ (if k > 0 then ", " else "" : String) ++ t)
    have e : (acc ++ (if k > 0 then ", " else "" : String) ++ t).length ≤ acc.length + 2 + t.length := by
      rw [strLen_append, strLen_append]
      have : ((if k > 0 then ", " else "" : String) : Str).length ≤ 2 := by split <;> decide +kernel
      omega
    show (textFrom (k + 1) _ r).length ≤ _
    rw [piled_cons]
    omega
theorem Sm.list {k n : Nat} {ds : List PyData} (h : SmL k n ds) (hk : k < 12) : Sm (n + 2) (.list ds) := by
  refine ⟨h.sh, h.nd, h.cl, ?_, ?_⟩
  · show PyData.depthAll ds + 1 ≤ 12
    have := h.dp
    omega
  · show (listText (PyData.shownAll ds)).length ≤ _
    unfold listText
    rw [strLen_append]
    have h1 := textFrom_le (PyData.shownAll ds) 0 "["
    have h2 : (("[" : String) : Str).length = 1 := rfl
    have h3 : (("]" : String) : Str).length = 1 := rfl
    have := h.len
    omega
theorem tupleText_le (ts : List Str) : (tupleText ts).length ≤ piled ts + 3 := by
  have e3 : (((if ts.length == 1 then ",)" else ")" : String) : Str)).length ≤ 2 := by split <;> decide +kernel
  have e1 : ((("(" : String) : Str)).length = 1 := rfl
  unfold tupleText
  rw [strLen_append, strLen_append, e1]
  by_cases h : ts = []
  · subst h
    have : (Str.join ", " ([] : List Str)).length = 0 := rfl
    omega
  · have := join_length_add ts h
    omega
theorem Sm.tuple {k n : Nat} {ds : List PyData} (h : SmL k n ds) (hk : k < 12) : Sm (n + 3) (.tuple ds) := by
  refine ⟨h.sh, h.nd, h.cl, ?_, ?_⟩
  · show PyData.depthAll ds + 1 ≤ 12
    have := h.dp
    omega
  · show (tupleText (PyData.shownAll ds)).length ≤ _
    have := tupleText_le (PyData.shownAll ds)
    have := h.len
    omega
/-- plain signs -/
def Plain (y : Str) : Prop := ∀ c ∈ y.cps.toList, c < 128
theorem pool_plain : ∀ c ∈ poolCodes, c < 128 := by decide +kernel
theorem Abc.plain {z y : Str} (h : Abc z) (o : Over z y) : Plain y := fun c hc => pool_plain c (h.inn c (o c hc))
theorem Sm.str {y : Str} (h : Plain y) : Sm (10 * y.length + 2) (.str y) := by
  refine ⟨rfl, rfl, ?_, Nat.zero_le _, StrLaws.reprText_len y fun c hc => Nat.lt_trans (h c hc) (by decide)⟩
  show y.cps.all (· < 0x110000) = true
  rw [Array.all_eq_true]
  intro i hi
  refine decide_eq_true (Nat.lt_trans (h y.cps[i] ?_) (by decide))
  exact Array.getElem_mem_toList hi
theorem Sm.bool (b : Bool) : Sm 5 (.bool b) := ⟨rfl, rfl, rfl, Nat.zero_le _, by cases b <;> decide +kernel⟩
def ruleD (r : Rule) : PyData := .tuple [.str (kd r.fr), .str r.old, .str r.new]
theorem kd_plain (b : Bool) : Plain (kd b) := by
  have h : ∀ c ∈ (kd b).cps.toList, c < 128 := by cases b <;> decide +kernel
  exact h
theorem kd_len (b : Bool) : (kd b).length = 5 := by cases b <;> decide +kernel
theorem Sm.rule {b : Nat} {r : Rule} (h1 : Plain r.old) (h2 : Plain r.new) (l1 : r.old.length ≤ b) (l2 : r.new.length ≤ b) : Sm (20 * b + 75) (ruleD r) := by
  have a0 := Sm.str (kd_plain r.fr)
  rw [kd_len] at a0
  have := Sm.tuple (k := 1) (SmL.cons a0 (Nat.zero_le _) (SmL.cons ((Sm.str h1).mono (show _ ≤ 10 * b + 2 by omega)) (Nat.zero_le _) (SmL.cons ((Sm.str h2).mono (show _ ≤ 10 * b + 2 by omega)) (Nat.zero_le _) SmL.nil))) (by decide)
  exact this.mono (by omega)
theorem rule_depth (r : Rule) : (ruleD r).depth = 1 := rfl
theorem SmL.rules {b : Nat} : ∀ {rs : List Rule}, (∀ r ∈ rs, Plain r.old ∧ Plain r.new ∧ r.old.length ≤ b ∧ r.new.length ≤ b) → SmL 1 ((20 * b + 77) * rs.length) (rs.map ruleD)
  | [], _ => SmL.nil
  | r :: rs, h => by
    obtain ⟨h1, h2, h3, h4⟩ := h r List.mem_cons_self
    have ih := SmL.rules (rs := rs) fun r hr => h r (List.mem_cons_of_mem _ hr)
    have := SmL.cons (Sm.rule h1 h2 h3 h4) (Nat.le_of_eq (rule_depth r)) ih
    refine ⟨this.sh, this.nd, this.cl, this.dp, Nat.le_trans this.len ?_⟩
    rw [List.length_cons, Nat.mul_add, Nat.mul_one]
    omega
theorem Sm.rules {b : Nat} {rs : List Rule} (h : ∀ r ∈ rs, Plain r.old ∧ Plain r.new ∧ r.old.length ≤ b ∧ r.new.length ≤ b) : Sm ((20 * b + 77) * rs.length + 2) (.list (rs.map ruleD)) :=
  Sm.list (SmL.rules h) (by decide)
theorem dp_rule {K : PySem.W.Frag} {H : Hp} {v : V} {r : Rule} (h : RuleAt H v r) : Dp K H v (ruleD r) := by
  obtain ⟨t, rfl, e⟩ := h
  exact .tup (SqT.of e) (.cons (.str _) (.cons (.str _) (.cons (.str _) .nil)))
theorem dp_rules {K : PySem.W.Frag} {H : Hp} : ∀ {xs : List V} {rs : List Rule}, RulesAt H xs rs → DpAll K H xs (rs.map ruleD)
  | _, _, .nil => .nil
  | _, _, .cons a b => .cons (dp_rule a) (dp_rules b)
theorem dp_list {K : PySem.W.Frag} {H : Hp} {D : Addr} {xs : List V} {rs : List Rule} (h : SqL K H D xs) (r : RulesAt H xs rs) : Dp K H (.ref D) (.list (rs.map ruleD)) := .lst h (dp_rules r)
theorem eqv_rule (a b : Rule) : PyData.eqv (ruleD a) (ruleD b) = true ↔ a = b := by
  obtain ⟨f, o, n⟩ := a
  obtain ⟨f', o', n'⟩ := b
  show ((kd f == kd f') && ((o == o') && ((n == n') && true))) = true ↔ _
  rw [Bool.and_eq_true, Bool.and_eq_true, Bool.and_eq_true]
  constructor
  · rintro ⟨h1, h2, h3, _⟩
    have e1 : kd f = kd f' := eq_of_beq h1
    have e2 : f = f' := by
      cases f <;> cases f' <;> first | rfl | exact absurd e1 kd_ne | exact absurd e1.symm kd_ne
    rw [e2, eq_of_beq h2, eq_of_beq h3]
  · intro h
    cases h
    simp
theorem eqv_rules : ∀ (a b : List Rule), PyData.eqvAll (a.map ruleD) (b.map ruleD) = true ↔ a = b
  | [], [] => by simp [PyData.eqvAll]
  | [], _ :: _ => by simp [PyData.eqvAll]
  | _ :: _, [] => by simp [PyData.eqvAll]
  | x :: a, y :: b => by
    show (PyData.eqv (ruleD x) (ruleD y) && PyData.eqvAll (a.map ruleD) (b.map ruleD)) = true ↔ _
    rw [Bool.and_eq_true, eqv_rule, eqv_rules a b]
    simp
end FL
namespace FL
open PySem PySem.Spec PyProof.Rows L2
def spHid (K : PySem.W.Frag) : Sp := fun vs H Q _ => ∃ (p : Addr) (z : Str) (D0 : Addr) (xs : List V) (rs : List Rule) (b : Nat), vs = [.ref p, .str z, .ref D0] ∧ PotAt H p ∧ Abc z ∧
  SqL K H D0 xs ∧ RulesAt H xs rs ∧ rs.length ≤ 50 ∧ b ≤ 20 ∧ 2 ≤ b ∧ (∀ r ∈ rs, RuleOk z b r) ∧
  ∀ (D : Addr) (ys : List V) (ts : List Rule) (H' : Hp), H D = none → H' D = some (.lst ys) → RulesAt H' ys ts → ts.length ≤ rs.length + 2 →
    (∀ r ∈ ts, RuleOk z (b + 2) r) → PotAt H' p → But p H H' → Q (.ref D) H'
theorem paired_mem {α β : Type} {R : α → β → Prop} : ∀ {xs : List α} {ys : List β} {x : α}, Paired R xs ys → x ∈ xs → ∃ y, y ∈ ys ∧ R x y
  | _, _, _, .nil, h => nomatch h
  | _, _, x, .cons a r, h => by
    rcases List.mem_cons.mp h with rfl | h
    · exact ⟨_, List.mem_cons_self, a⟩
    · obtain ⟨y, h1, h2⟩ := paired_mem r h
      exact ⟨y, List.mem_cons_of_mem _ h1, h2⟩
theorem ok_plain {z : Str} {b : Nat} {rs : List Rule} (h : Abc z) (ok : ∀ r ∈ rs, RuleOk z b r) : ∀ r ∈ rs, Plain r.old ∧ Plain r.new ∧ r.old.length ≤ b ∧ r.new.length ≤ b :=
  fun r hr => ⟨h.plain (ok r hr).o1, h.plain (ok r hr).n1, (ok r hr).o2, (ok r hr).n2⟩
end FL
namespace FL
open PySem PySem.Spec PyProof.Rows L2
theorem walk_zipS {x y : Str} : Walk (ItS x y) (min x.cps.size y.cps.size) (fun _ => True)
    (fun i H v H' => ∃ T a b, v = .ref T ∧ H T = none ∧ H' = upd H T (.tup [.str ⟨#[a]⟩, .str ⟨#[b]⟩]) ∧ x.cps[i]? = some a ∧ y.cps[i]? = some b) :=
  ⟨fun _ _ h _ => h, fun _ _ => rfl, fun _ _ _ _ _ _ h => h⟩
def signChars : Str := Str.ofString "abcdefghijklmnopqrstuvwxyz0123456789.-=>|"
def rise (l : List Nat) : List Bool := List.zipWith (fun a b => decide ([a] < [b])) l l.tail
def signsB : V → Bool
  | .str z => decide (2 ≤ z.length) && (decide (z.length ≤ 4) && ((rise z.cps.toList).all id && lineB signChars (.str z)))
  | _ => false
def spSigns : Sp := fun vs H Q _ => ∃ (v : V) (n : String), vs = [v] ∧ Any H v n ∧ Short v ∧ ∀ H', Same H H' → Q (.bl (signsB v)) H'
theorem cut_tail (z : Str) : (cutS z (some 1) none).cps.toList = z.cps.toList.tail := by
  show ((z.cps.toList.drop (HT.sIx z.length 0 (some ((1 : Nat) : Int)))).take (HT.sIx z.length z.length none - HT.sIx z.length 0 (some ((1 : Nat) : Int)))).toArray.toList = _
  rw [HT.sIx_nat, HT.sIx_none]
  show (List.drop (min 1 z.length) z.cps.toList).take (z.length - min 1 z.length) = _
  have hl := str_len z
  cases h : z.cps.toList with
  | nil => simp
  | cons a l =>
    rw [h] at hl
    have : z.length = l.length + 1 := by simpa using hl
    have m : min 1 z.length = 1 := by omega
    rw [m, List.drop_succ_cons, List.drop_zero, List.tail_cons, List.take_of_length_le (by omega)]
theorem rise_get {l : List Nat} {i a b : Nat} (h1 : l[i]? = some a) (h2 : l.tail[i]? = some b) : (rise l)[i]? = some (decide ([a] < [b])) := by
  unfold rise
  rw [List.getElem?_zipWith, h1, h2]
theorem take_snoc {α : Type} {l : List α} {i : Nat} {x : α} (h : l[i]? = some x) : l.take (i + 1) = l.take i ++ [x] := by
  obtain ⟨hi, e⟩ := List.getElem?_eq_some_iff.mp h
  rw [List.take_succ_eq_append_getElem hi, e]
end FL
namespace FL
open PySem PySem.Spec PyProof.Rows L2
theorem takeWhile_len {α : Type} {p : α → Bool} : ∀ {l : List α}, (∀ a ∈ l, p a = true) → (l.takeWhile p).length = l.length
  | [], _ => rfl
  | a :: l, h => by
    rw [List.takeWhile_cons, if_pos (h a List.mem_cons_self), List.length_cons, List.length_cons, takeWhile_len fun b hb => h b (List.mem_cons_of_mem _ hb)]
theorem over_line {z y : Str} (h : Over z y) : lineB z (.str y) = true := by
  show decide (Txt.stripChars y z = Str.ofString "") = true
  apply decide_eq_true
  unfold Txt.stripChars
  rw [stripBy_eq]
  have e1 : stripLo z.cps.contains true y = y.cps.size := by
    unfold stripLo
    rw [if_pos rfl, takeWhile_len, Array.length_toList]
    intro c hc
    have := h c hc
    rw [Array.contains_iff_mem]
    exact Array.mem_def.mpr this
  rw [e1]
  apply Str_ext
  show (y.cps.extract y.cps.size _).toList = (Str.ofString "").cps.toList
  rw [show (Str.ofString "").cps.toList = [] by decide +kernel]
  have : (y.cps.extract y.cps.size (stripHi z.cps.contains true y y.cps.size)).size = 0 := by
    rw [Array.size_extract]
    omega
  exact List.length_eq_zero_iff.mp (by rw [Array.length_toList]; exact this)
theorem pool_line : ∀ c ∈ poolCodes, c ∈ signChars.cps.toList := by decide +kernel
theorem rise_all : ∀ {l : List Nat}, l.Pairwise (· < ·) → (rise l).all id = true
  | [], _ => rfl
  | [a], _ => rfl
  | a :: b :: r, h => by
    cases h with
    | cons h1 h2 =>
      have ih := rise_all h2
      show (decide ([a] < [b]) && (rise (b :: r)).all id) = true
      rw [ih, decide_eq_true]
      · rfl
      · exact List.Lex.rel (h1 b List.mem_cons_self)
theorem abc_signs {z : Str} (h : Abc z) : signsB (.str z) = true := by
  show (decide (2 ≤ z.length) && (decide (z.length ≤ 4) && ((rise z.cps.toList).all id && lineB signChars (.str z)))) = true
  rw [decide_eq_true h.lo, decide_eq_true h.hi, rise_all h.up, over_line fun c hc => pool_line c (h.inn c hc)]
  rfl
/-! checks that raise nothing -/
def spCheckSigns : Sp := fun vs H Q _ => ∃ z : Str, vs = [.str z] ∧ Abc z ∧ ∀ H', Same H H' → Q .non H'
def spCheckLine : Sp := fun vs H Q _ => ∃ (z y : Str), vs = [.str z, .str y] ∧ Over z y ∧ y.length ≤ sizeLine ∧ Q .non H
end FL
namespace FL
open PySem PySem.Spec PyProof.Rows L2
def spIsList : Sp := fun vs H Q _ => ∃ (v : V) (n : String), vs = [v] ∧ Any H v n ∧ ∀ H', Same H H' → Q (.bl (n == "list" || n == "tuple")) H'
def spRuleLine : Sp := fun vs H Q _ => ∃ (z y : Str), vs = [.str z, .str y] ∧ Over z y ∧ y.length ≤ 40 ∧ Q (.bl true) H
def spIsRule : Sp := fun vs H Q _ => ∃ (z : Str) (v : V) (r : Rule), vs = [.str z, v] ∧ RuleAt H v r ∧ RuleOk z 40 r ∧ ∀ H', Same H H' → Q (.bl true) H'
theorem kitL_all : (kinds.all fun n => decide (kitB n "list" = some (n == "list")) && decide (kitB n "tuple" = some (n == "tuple"))) = true := by decide +kernel
theorem kit_lt {K : PySem.W.Frag} {n : String} (h : n ∈ kinds) : PySem.W.kitAny K (.type n) [.type "list", .type "tuple"] = some (n == "list" || n == "tuple") := by
  have h' := List.all_eq_true.mp kitL_all n h
  rw [Bool.and_eq_true] at h'
  have h1 : kitB n "list" = some (n == "list") := of_decide_eq_true h'.1
  have h2 : kitB n "tuple" = some (n == "tuple") := of_decide_eq_true h'.2
  refine kitAny_cons (kit_ty h1) (fun e => ?_) (fun e => by rw [e]; rfl)
  refine kitAny_cons (kit_ty h2) (fun e2 => ?_) (fun e2 => by rw [e2, Bool.or_true])
  rw [e, e2]
  exact kitAny_nil
end FL
namespace PySem
open Builtin
theorem fl_enum_new {v : Value} {o : Obj} {G : Heap → Prop} (B : Begins v o G) :
    Meets (Builtin.«enumerate.__new__» ⟨[.type "enumerate", v], []⟩) (fun _ R s => G s.heap ∧
      R (.ok (.ret (.ref (s.heap.push o).objs.size)))
        { s with heap := (s.heap.push o).push { cls := .type "enumerate", data := .fields #[.none, .bool false, .ref s.heap.objs.size, rawInt 0, .none, .none] } }) := by
  refine .of_wp ?_
  rintro prog w A R ⟨hp, g, d, tk, os⟩ ⟨h1, h⟩
  have known := sub_enumerate
  have it0 : ∀ {A' : Around} {E : Value → Shared → Prop} {Q : Value → Shared → Prop}, Q (.ref hp.objs.size) ⟨hp.push o, g, d, tk, os⟩ →
      wpAny (model prog w) A' (pyIter v) Q E ⟨hp, g, d, tk, os⟩ := fun q => B.iter prog w _ _ ⟨hp, g, d, tk, os⟩ _ h1 q
  wp_walk using it0
  refine wpAny_stack_any fun st => wpAny_pure ?_
  split
  · rename_i c _ _ _ _ _
    cases (c == Value.type "enumerate") <;>
      (wp_walk using it0
       exact ⟨_, rfl, h⟩)
  · wp_walk using it0
    exact ⟨_, rfl, h⟩
theorem fl_enum {prog : Program} {w : World} {A : Around} {E : Value → Shared → Prop} {s : Shared} {v : Value} {o : Obj} {G : Heap → Prop} {Q : Value → Shared → Prop} (B : Begins v o G) (h1 : G s.heap)
    (h : ∀ h', IsEnum h' (s.heap.objs.size + 1) s.heap.objs.size 0 .none → h'.get? s.heap.objs.size = some o →
      (∀ b u, s.heap.get? b = some u → h'.get? b = some u) → Q (.ref (s.heap.objs.size + 1)) { s with heap := h' }) :
    wpAny (model prog w) A (call (.type "enumerate") [v]) Q E s := by
  refine callType_new F.called_enumerate (by decide) (F.typeCall_enumerate_1 _) (F.newCall_enumerate_1 _) (fun obj => F.args_object_init_2 obj _) F.entry_enumerate_new
    (fl_enum_new B) ⟨h1, ?_⟩
  have hz : (s.heap.push o).objs.size = s.heap.objs.size + 1 := Heap.size_push ..
  have he : IsEnum ((s.heap.push o).push { cls := .type "enumerate", data := .fields #[.none, .bool false, .ref s.heap.objs.size, rawInt 0, .none, .none] }) (s.heap.objs.size + 1) s.heap.objs.size 0 .none := by
    have q := Heap.get?_push_size (s.heap.push o) (o := { cls := .type "enumerate", data := .fields #[.none, .bool false, .ref s.heap.objs.size, rawInt 0, .none, .none] }) rfl
    rw [hz] at q
    exact q
  show _ ∧ _
  rw [hz]
  exact ⟨⟨_, he, rfl⟩, h _ he (Heap.get?_push_of_some _ (Heap.get?_push_size _ B.free)) fun b u e => Heap.get?_push_of_some _ (Heap.get?_push_of_some _ e)⟩
end PySem
namespace FL
open PySem PySem.Spec PyProof.Rows L2
/-! ### enumerate of a tuple -/
def IteT (K : PySem.W.Frag) (a : Addr) (xs : List V) : It :=
  ⟨fun i H => SqT K H a xs ∧ i < xs.length,
   fun i H v H' => ∃ T x, v = .ref T ∧ H T = none ∧ H' = upd H T (.tup [.int (i : Nat), x]) ∧ xs[i]? = some x,
   fun i H => SqT K H a xs ∧ i = xs.length⟩
theorem sqT_inj {X : Cx} {pins : List (Addr × Obj)} {σ : L2.St} {H : Hp} {s : Shared} (I : L2.Inv X pins σ H s) {a : Addr} {xs : List V} (h : SqT X.K H a xs) :
    ∃ its : List Value, Vals xs its ∧ s.heap.IsTuple a its.toArray := by
  obtain ⟨its, r, e, _⟩ := I.tuple h
  exact ⟨its, r, e⟩
theorem turn_enumT {P : Program} {w : World} {K : PySem.W.Frag} {elts : List Expr} {kk : Nat} {tpos : Pos} (a e it : Addr) (xs : List V) :
    Turn P w K (.Tuple elts kk tpos) (IteT K a xs) [e, it] e (fun i h => (∃ old, IsEnum h e it ((i : Nat) : Int) old) ∧ h.IsTupleIter it a i ∧ e ≠ it ∧ a ≠ it ∧ a ≠ e) where
  mem := by simp
  obj := by
    rintro i h ⟨⟨old, he⟩, ⟨o, ho, hd⟩, _⟩ b hb
    have e' : b = e ∨ b = it := by simpa using hb
    rcases e' with rfl | rfl
    · exact ⟨_, he, fun v q => nomatch q⟩
    · exact ⟨_, ho, fun v q => by simp_all⟩
  keep := by
    rintro i h h' ⟨⟨old, he⟩, hi, n1, n2⟩ k
    exact ⟨⟨old, k e (by simp) _ he⟩, hi.at fun o q => k it (by simp) o q, n1, n2⟩
  item := by
    intro X hP hw hK hc i pins s σ H E I hf st hg
    subst hP hw hK
    obtain ⟨⟨old, he⟩, hit, hne, hna, hnb⟩ := st
    obtain ⟨hq, hlt⟩ := hg
    obtain ⟨its, rv, p⟩ := sqT_inj I hq
    have hl := rv.length
    have hh : X.A.in1.handled = none := I.ok.hd hc
    have el := Heap.lt_size he
    have il : it < s.heap.objs.size := by
      obtain ⟨_, q, _⟩ := hit
      exact Heap.lt_size q
    refine wpAny_pyNext_enum_itemD (Draws.tuple hh it a hna its.toArray) he ⟨hit, p⟩ (by simp; omega) hne (by simp [hne, Ne.symm hnb]) ?_
    rintro u h' tk hu ho ⟨hit', _⟩ hT sz kp
    have hx : xs[i]? = some xs[i] := List.getElem?_eq_getElem hlt
    obtain ⟨u', hu', ru⟩ := rv.get hx
    have : u' = u := by
      have hu2 : its[i]? = some u := by simpa using hu
      rw [hu2] at hu'
      exact (Option.some.inj hu').symm
    subst this
    refine ⟨_, rfl, wpAny_letOwnedTupleGo_enum (s := { s with heap := h', toks := tk + 1 }) ho fun h2 he2 sb => ?_⟩
    have T2 : h2.get? s.heap.objs.size = some { cls := .type "tuple", data := .seq #[.int i tk, u'] } := (sb.2 _ (Nat.ne_of_gt el)).trans hT
    have ok : ObjOk X.prog X.w (upd H s.heap.objs.size (.tup [.int (i : Nat), xs[i]])) h2 s.heap.objs.size (.tup [.int (i : Nat), xs[i]]) :=
      ⟨(by show 2 ≤ sizeLine; decide), [_, _], .cons ⟨tk, rfl⟩ (.cons ru .nil), ⟨_, T2, rfl, _, rfl⟩⟩
    have J := I.turnedNew (t' := tk + 1) (ch := [e, it]) (h' := h2) (fun b ob nb q => (sb.2 b fun z => nb (by simp [z])).trans
      (kp b ob (fun z => nb (by simp [z])) (fun z => nb (by simp [z])) q)) hf (Nat.le_refl _) ok
    refine ⟨.ref s.heap.objs.size, _, J, rfl, ⟨_, xs[i], rfl, I.hok.fresh (Nat.le_refl _), rfl, hx⟩, ⟨⟨u', ?_⟩, hit'.at fun o q => (sb.2 it (Ne.symm hne)).trans q, hne, hna, hnb⟩, fun b hb => ?_⟩
    · rw [show ((i + 1 : Nat) : Int) = (i : Int) + 1 by omega]
      exact he2
    · have lb : b < s.heap.objs.size := by
        have e' : b = e ∨ b = it := by simpa using hb
        rcases e' with rfl | rfl
        · exact el
        · exact il
      rw [upd_ne (Nat.ne_of_lt lb)]
      exact (hf b hb).1
  done := by
    intro X hP hw hK hc i pins s σ H E I hf st hg
    subst hP hw hK
    obtain ⟨⟨old, he⟩, hit, hne, hna, hnb⟩ := st
    obtain ⟨hq, rfl⟩ := hg
    obtain ⟨its, rv, p⟩ := sqT_inj I hq
    have hl := rv.length
    have hh : X.A.in1.handled = none := I.ok.hd hc
    have ez : its.toArray.size = xs.length := by simp [hl]
    obtain ⟨f0, f1, f2, f3, f4, f5⟩ := hf it (by simp)
    refine wpAny_pyNext_enum_endD (Draws.tuple hh it a hna its.toArray) he (by rw [ez]; exact ⟨hit, p⟩) fun h' eb => ?_
    exact ⟨rfl, I.turned (t' := s.toks) (fun b o nb q => eb b o nb q) f0 f1 f3 f4 f5⟩
  self := fun A i s Q E st h => let ⟨⟨_, he⟩, _⟩ := st; wpAny_pyIter_enum he h
def iEnumT (K : PySem.W.Frag) (ta : TA) : TI := fun σ H R => ta σ H fun vs H1 => ∃ a xs, vs = [.ref a] ∧ SqT K H1 a xs ∧ R (IteT K a xs) H1
theorem pi_enumT {X : Cx} {e : Expr} {ta : TA} {p pos tpos : Pos} {elts : List Expr} {kk : Nat} (hg : Gl X "enumerate") (hm : X.mg "enumerate" = none) (ha : PA X [e] ta)
    (hs : starEach [e] X.env = [(false, eval e X.env)] := by rfl) :
    PI X (.Tuple elts kk tpos) (.Call (.Name "enumerate" p) [e] [] pos) (iEnumT X.K ta) := by
  constructor
  intro pins s σ H R I h
  refine Call_ (ld_blt I hg hm boot_enumerate (PyProof.Rows.callWith_type1 (thn (ha.run pos pins s σ H _ I h) fun us s1 hu => ?_) hs rfl))
  obtain ⟨vs, H1, J, r, a, xs, rfl, hq, q⟩ := hu
  obtain ⟨u, rfl, ru⟩ := vals1 r
  cases ru
  obtain ⟨its, rv, pt⟩ := sqT_inj J hq
  refine fl_enum (begins_tuple a its.toArray) pt ?_
  intro h' he hit kp
  refine wpAny_pyIter_enum he ?_
  have J2 : Inv X pins σ H1 { s1 with heap := h' } := J.kept (t' := s1.toks) kp
  have la : a < s1.heap.objs.size := by
    obtain ⟨_, q, _⟩ := pt
    exact Heap.lt_size q
  refine ⟨_, _, _, IteT X.K a xs, H1, rfl, J2, turn_enumT a (s1.heap.objs.size + 1) s1.heap.objs.size xs,
    ⟨⟨.none, he⟩, ⟨_, hit, rfl, rfl⟩, Nat.succ_ne_self _, Nat.ne_of_lt la, Nat.ne_of_lt (Nat.lt_succ_of_lt la)⟩, fun b hb => ?_, q⟩
  have e' : b = s1.heap.objs.size + 1 ∨ b = s1.heap.objs.size := by simpa using hb
  have hle : s1.heap.objs.size ≤ b := by
    rcases e' with z | z <;> rw [z]
    · exact Nat.le_add_right _ _
    · exact Nat.le_refl _
  exact J.fpOk hle (J.hok.fresh hle)
/-- either, by one rule -/
def IteS (K : PySem.W.Frag) (a : Addr) (xs : List V) (t : Bool) : It := if t then IteT K a xs else Ite K a
def SqX (K : PySem.W.Frag) (H : Hp) (a : Addr) (xs : List V) (t : Bool) : Prop := if t = true then SqT K H a xs else SqL K H a xs
def iEnumX (K : PySem.W.Frag) (t : Bool) (ta : TA) : TI := fun σ H R => ta σ H fun vs H1 => ∃ a xs, vs = [.ref a] ∧ SqX K H1 a xs t ∧ R (IteS K a xs t) H1
theorem pi_enumX {X : Cx} {e : Expr} {ta : TA} {p pos tpos : Pos} {elts : List Expr} {kk : Nat} (t : Bool) (hg : Gl X "enumerate") (hm : X.mg "enumerate" = none) (ha : PA X [e] ta)
    (hs : starEach [e] X.env = [(false, eval e X.env)] := by rfl) :
    PI X (.Tuple elts kk tpos) (.Call (.Name "enumerate" p) [e] [] pos) (iEnumX X.K t ta) := by
  cases t with
  | true => exact pi_enumT hg hm ha hs
  | false => exact pi_enum hg hm ha hs
theorem SqX.kept {K : PySem.W.Frag} {H H' : Hp} {a : Addr} {xs : List V} {t : Bool} (h : SqX K H a xs t) (s : ∀ o, H a = some o → H' a = some o) : SqX K H' a xs t := by
  cases t with
  | true =>
    have h' : SqT K H a xs := h
    show SqT K H' a xs
    rcases h' with (h | ⟨o, h⟩) | h
    · exact .inl (.inl (s _ h))
    · exact .inl (.inr ⟨o, s _ h⟩)
    · exact .inr h
  | false =>
    have h' : SqL K H a xs := h
    show SqL K H' a xs
    rcases h' with (h | ⟨o, h⟩) | h
    · exact .inl (.inl (s _ h))
    · exact .inl (.inr ⟨o, s _ h⟩)
    · exact .inr h
theorem walk_enumT {K : PySem.W.Frag} {a : Addr} {xs : List V} : Walk (IteT K a xs) xs.length (fun H => SqT K H a xs) (YPair (fun i => some (.int (i : Nat))) (fun i => xs[i]?)) :=
  ⟨fun i H hi h => ⟨h, hi⟩, fun H h => ⟨h, rfl⟩, fun i H x H' hi h y => by
    obtain ⟨T, v, rfl, hT, rfl, e⟩ := y
    exact ⟨T, _, _, rfl, hT, rfl, rfl, e⟩⟩
theorem walk_enumX {K : PySem.W.Frag} {a : Addr} {xs : List V} {t : Bool} : Walk (IteS K a xs t) xs.length (fun H => SqX K H a xs t) (YPair (fun i => some (.int (i : Nat))) (fun i => xs[i]?)) := by
  cases t with
  | true => exact walk_enumT
  | false => exact walk_enum
/-- rules as they are passed: a list or a tuple, tracked -/
def RuArg (H : Hp) (v : V) (rs : List Rule) : Prop := ∃ (a : Addr) (xs : List V) (t : Bool), v = .ref a ∧ H a = some (if t then .tup xs else .lst xs) ∧ RulesAt H xs rs
theorem RuArg.any {H : Hp} {v : V} {rs : List Rule} (h : RuArg H v rs) : ∃ n, Any H v n ∧ (n == "list" || n == "tuple") = true := by
  obtain ⟨a, xs, t, rfl, e, _⟩ := h
  cases t with
  | true => exact ⟨"tuple", .tup e, rfl⟩
  | false => exact ⟨"list", .lst e, rfl⟩
theorem sqX_of {K : PySem.W.Frag} {H : Hp} {a : Addr} {xs : List V} {t : Bool} (e : H a = some (if t then .tup xs else .lst xs)) : SqX K H a xs t := by
  cases t with
  | true => exact SqT.of e
  | false => exact SqL.of e
theorem Same.rules {H H' : Hp} {xs : List V} {rs : List Rule} (s : Same H H') (h : RulesAt H xs rs) : RulesAt H' xs rs := RulesAt.imp h fun t a e => s t _ e
def spCheckRules : Sp := fun vs H Q _ => ∃ (z : Str) (v : V) (rs : List Rule), vs = [.str z, v] ∧ RuArg H v rs ∧ (∀ r ∈ rs, RuleOk z 40 r) ∧ ∀ H', Same H H' → Q .non H'
end FL
namespace FL
open PySem PySem.Spec PyProof.Rows L2
def ItX (K : PySem.W.Frag) (a : Addr) (t : Bool) : It := if t then Itt K a else Itl K a
def iSeqX (K : PySem.W.Frag) (t : Bool) (tl : TE) : TI := fun σ H R => tl σ H fun x H1 => ∃ a, x = .ref a ∧ (∃ xs, SqX K H1 a xs t) ∧ R (ItX K a t) H1
theorem pi_seqX {X : Cx} {tg l : Expr} {tl : TE} (t : Bool) (hl : PE X l tl) : PI X tg l (iSeqX X.K t tl) := by
  cases t with
  | true => exact pi_tup hl
  | false => exact pi_list hl
theorem walk_seqX {K : PySem.W.Frag} {a : Addr} {xs : List V} {t : Bool} : Walk (ItX K a t) xs.length (fun H => SqX K H a xs t) (YAt xs) := by
  cases t with
  | true => exact walk_tup
  | false => exact walk_list
theorem lenX {K : PySem.W.Frag} {H : Hp} {a : Addr} {xs : List V} {t : Bool} (h : SqX K H a xs t) : LenV K (.ref a) H xs.length := by
  cases t with
  | true => exact .inr ⟨_, h, rfl⟩
  | false => exact .inl ⟨_, h, rfl⟩
/-! ### a relay as it stands -/
def flds (z : Str) (ra ia : Addr) : List (Str × V) := putF "_index" (.ref ia) (putF "_rules" (.ref ra) (putF "_signs" (.str z) []))
theorem fn1 : ¬ ((Str.ofString "_rules") = Str.ofString "_index") := by decide +kernel
theorem fn2 : ¬ ((Str.ofString "_signs") = Str.ofString "_index") := by decide +kernel
theorem fn3 : ¬ ((Str.ofString "_signs") = Str.ofString "_rules") := by decide +kernel
theorem two_len (z : Str) (ra : Addr) : (putF "_rules" (.ref ra) (putF "_signs" (.str z) [])).length < 1000 := by
  show (if Str.ofString "_signs" = Str.ofString "_rules" then [(Str.ofString "_signs", V.ref ra)] else (Str.ofString "_signs", V.str z) :: putF (Str.ofString "_rules") (.ref ra) []).length < 1000
  rw [if_neg fn3]
  show 2 < 1000
  decide
theorem flds_signs (z : Str) (ra ia : Addr) : (flds z ra ia).lookup (Str.ofString "_signs") = some (.str z) := by
  unfold flds
  rw [lookup_putF, if_neg fn2, lookup_putF, if_neg fn3, lookup_putF, if_pos rfl]
theorem flds_rules (z : Str) (ra ia : Addr) : (flds z ra ia).lookup (Str.ofString "_rules") = some (.ref ra) := by
  unfold flds
  rw [lookup_putF, if_neg fn1, lookup_putF, if_pos rfl]
theorem flds_index (z : Str) (ra ia : Addr) : (flds z ra ia).lookup (Str.ofString "_index") = some (.ref ia) := by
  unfold flds
  rw [lookup_putF, if_pos rfl]
theorem flds_no (z : Str) (ra ia : Addr) {m : Str} (h1 : ¬ m = Str.ofString "_index") (h2 : ¬ m = Str.ofString "_rules") (h3 : ¬ m = Str.ofString "_signs") : (flds z ra ia).lookup m = none := by
  unfold flds
  rw [lookup_putF, if_neg h1, lookup_putF, if_neg h2, lookup_putF, if_neg h3]
  rfl
end FL
namespace FL
open PySem PySem.Spec PyProof.Rows L2
/-! ### the index of rules -/
def ky (fr : Bool) (old : Str) : List Key := [Sum.inr (kd fr), Sum.inr old]
theorem ky_inj {f f' : Bool} {o o' : Str} (h : ky f o = ky f' o') : f = f' ∧ o = o' := by
  unfold ky at h
  injection h with h1 h2
  injection h2 with h3 _
  have e1 : kd f = kd f' := Sum.inr.inj h1
  refine ⟨?_, Sum.inr.inj h3⟩
  cases f <;> cases f' <;> first | rfl | exact absurd e1 kd_ne | exact absurd e1.symm kd_ne
def Is (r : Rule) (fr : Bool) (old : Str) : Prop := r.fr = fr ∧ r.old = old
def IdxOk (H : Hp) (kvs : List (List Key × V)) (rs : List Rule) : Prop := (∀ kv ∈ kvs, ∃ (fr : Bool) (old : Str), kv.1 = ky fr old) ∧ ∀ (fr : Bool) (old : Str),
  (valV kvs (ky fr old) = none ∧ ∀ r ∈ rs, ¬ Is r fr old) ∨
  (∃ (i : Nat) (t : Addr) (new : Str), valV kvs (ky fr old) = some (.ref t) ∧ H t = some (.tup [.int (i : Nat), .str new]) ∧ rs[i]? = some ⟨fr, old, new⟩
    ∧ ∀ (j : Nat) (r : Rule), j < i → rs[j]? = some r → ¬ Is r fr old)
theorem IdxOk.imp {H H' : Hp} {kvs : List (List Key × V)} {rs : List Rule} (h : IdxOk H kvs rs) (s : ∀ t a, H t = some (.tup a) → H' t = some (.tup a)) : IdxOk H' kvs rs := ⟨h.1, fun fr old => by
  rcases h.2 fr old with h | ⟨i, t, new, h1, h2, h3⟩
  · exact .inl h
  · exact .inr ⟨i, t, new, h1, s _ _ h2, h3⟩⟩
theorem IdxOk.nil {H : Hp} : IdxOk H [] [] := ⟨fun _ h => (nomatch h), fun fr old => .inl ⟨rfl, fun _ h => nomatch h⟩⟩
theorem get_snoc_lt {α : Type} {l : List α} {x : α} {i : Nat} {y : α} (h : l[i]? = some y) : (l ++ [x])[i]? = some y := by
  rw [List.getElem?_append_left (List.getElem?_eq_some_iff.mp h).1]
  exact h
theorem IdxOk.skip {H : Hp} {kvs : List (List Key × V)} {rs : List Rule} {r : Rule} (h : IdxOk H kvs rs) (hv : valV kvs (ky r.fr r.old) ≠ none) : IdxOk H kvs (rs ++ [r]) := ⟨h.1, fun fr old => by
  rcases h.2 fr old with ⟨h1, h2⟩ | ⟨i, t, new, h1, h2, h3, h4⟩
  · refine .inl ⟨h1, fun r' hr' => ?_⟩
    rcases List.mem_append.mp hr' with q | q
    · exact h2 r' q
    · rw [List.mem_singleton.mp q]
      rintro ⟨rfl, rfl⟩
      exact hv h1
  · refine .inr ⟨i, t, new, h1, h2, get_snoc_lt h3, fun j r' hj hr' => ?_⟩
    have hi := (List.getElem?_eq_some_iff.mp h3).1
    rw [List.getElem?_append_left (by omega)] at hr'
    exact h4 j r' hj hr'⟩
theorem valV_put {kvs : List (List Key × V)} {k k' : List Key} {v : V} (h : valV kvs k = none) : valV (kvs ++ [(k, v)]) k' = if k = k' then some v else valV kvs k' := by
  induction kvs with
  | nil =>
    by_cases e : k = k'
    · rw [if_pos e]
      exact valV_pos e
    · rw [if_neg e]
      exact valV_neg e
  | cons p r ih =>
    have hp : ¬ p.1 = k := fun e => by
      rw [valV_pos e] at h
      cases h
    rw [valV_neg hp] at h
    show valV (p :: (r ++ [(k, v)])) k' = _
    by_cases e : p.1 = k'
    · rw [valV_pos e, valV_pos e, if_neg]
      intro q
      exact hp (e.trans q.symm)
    · rw [valV_neg e, valV_neg e, ih h]
theorem IdxOk.put {H H' : Hp} {kvs : List (List Key × V)} {rs : List Rule} {r : Rule} {t : Addr} (h : IdxOk H kvs rs) (hv : valV kvs (ky r.fr r.old) = none)
    (s : ∀ t a, H t = some (.tup a) → H' t = some (.tup a)) (ht : H' t = some (.tup [.int (rs.length : Nat), .str r.new])) : IdxOk H' (putK kvs (ky r.fr r.old) (.ref t)) (rs ++ [r]) := ⟨fun kv hkv => by
  rw [putK_new _ hv] at hkv
  rcases List.mem_append.mp hkv with q | q
  · exact h.1 kv q
  · rw [List.mem_singleton.mp q]
    exact ⟨_, _, rfl⟩, fun fr old => by
  rw [putK_new _ hv, valV_put hv]
  by_cases e : ky r.fr r.old = ky fr old
  · rw [if_pos e]
    obtain ⟨e1, e2⟩ := ky_inj e
    refine .inr ⟨rs.length, t, r.new, rfl, ht, ?_, fun j r' hj hr' => ?_⟩
    · rw [List.getElem?_append_right (Nat.le_refl _), Nat.sub_self]
      subst e1
      subst e2
      rfl
    · rw [List.getElem?_append_left hj] at hr'
      rcases h.2 fr old with ⟨_, h2⟩ | ⟨i, t', new, h1, _⟩
      · exact h2 r' (List.mem_of_getElem? hr')
      · rw [← e, hv] at h1
        cases h1
  · rw [if_neg e]
    have := (h.imp s).2 fr old
    rcases this with ⟨h1, h2⟩ | ⟨i, t', new, h1, h2, h3, h4⟩
    · refine .inl ⟨h1, fun r' hr' => ?_⟩
      rcases List.mem_append.mp hr' with q | q
      · exact h2 r' q
      · rw [List.mem_singleton.mp q]
        rintro ⟨rfl, rfl⟩
        exact e rfl
    · refine .inr ⟨i, t', new, h1, h2, get_snoc_lt h3, fun j r' hj hr' => ?_⟩
      have hi := (List.getElem?_eq_some_iff.mp h3).1
      rw [List.getElem?_append_left (by omega)] at hr'
      exact h4 j r' hj hr'⟩
theorem put_len {kvs : List (List Key × V)} {k : List Key} {v : V} (h : valV kvs k = none) : (putK kvs k v).length = kvs.length + 1 := by
  rw [putK_new _ h, List.length_append]
  rfl
def IdxAt (H : Hp) (d : Addr) (rs : List Rule) : Prop := ∃ kvs, H d = some (.dT kvs) ∧ kvs.length ≤ rs.length ∧ IdxOk H kvs rs
def spIndex : Sp := fun vs H Q _ => ∃ (v : V) (rs : List Rule), vs = [v] ∧ RuArg H v rs ∧ rs.length ≤ 10000 ∧
  ∀ (d : Addr) (H' : Hp), H d = none → IdxAt H' d rs → Same H H' → Q (.ref d) H'
end FL
namespace FL
open PySem PySem.Spec PyProof.Rows L2
/-! ### min of a list of pairs (int, text) -/
abbrev Pr := Int × Str
def pairD (q : Pr) : PyData := .tuple [.int q.1, .str q.2]
def PairAt (H : Hp) (v : V) (q : Pr) : Prop := ∃ t, v = .ref t ∧ H t = some (.tup [.int q.1, .str q.2])
theorem lt_pair {q r : Pr} (h : q.1 ≠ r.1) : PySem.W.dataLt (pairD q) (pairD r) = decide (q.1 < r.1) := by
  have e : PySem.W.dataLt (pairD q) (pairD r) = PySem.W.dataLt (.int q.1) (.int r.1) := by
    show PyProof.Rows.lexLt PyProof.Rows.itemOrd (Sum.inl q.1 :: [Sum.inr q.2.cps.toList]) (Sum.inl r.1 :: [Sum.inr r.2.cps.toList]) = PyProof.Rows.lexLt PyProof.Rows.itemOrd [Sum.inl q.1] [Sum.inl r.1]
    exact PySem.W.lex_atom (fun e => h (Sum.inl.inj e)) _ _
  rw [e, PySem.W.dataLt_int]
theorem minD_pair : ∀ (qs : List Pr) (q : Pr), ∃ r, r ∈ q :: qs ∧ PySem.W.minD (pairD q) (qs.map pairD) = pairD r ∧ ∀ p ∈ q :: qs, r.1 ≤ p.1
  | [], q => ⟨q, List.mem_cons_self, rfl, fun p hp => by rw [List.mem_singleton.mp hp]; exact Int.le_refl _⟩
  | p :: qs, q => by
    have step : PySem.W.minD (pairD q) ((p :: qs).map pairD) = PySem.W.minD (if PySem.W.dataLt (pairD p) (pairD q) then pairD p else pairD q) (qs.map pairD) := rfl
    rw [step]
    by_cases hb : PySem.W.dataLt (pairD p) (pairD q) = true
    · rw [if_pos hb]
      obtain ⟨r, hr, e, m⟩ := minD_pair qs p
      refine ⟨r, List.mem_cons_of_mem _ hr, e, fun x hx => ?_⟩
      rcases List.mem_cons.mp hx with rfl | hx
      · have hp := m p List.mem_cons_self
        by_cases hne : p.1 = x.1
        · omega
        · rw [lt_pair hne] at hb
          have := of_decide_eq_true hb
          omega
      · exact m x hx
    · rw [if_neg hb]
      obtain ⟨r, hr, e, m⟩ := minD_pair qs q
      refine ⟨r, ?_, e, fun x hx => ?_⟩
      · rcases List.mem_cons.mp hr with rfl | h
        · exact List.mem_cons_self
        · exact List.mem_cons_of_mem _ (List.mem_cons_of_mem _ h)
      · rcases List.mem_cons.mp hx with rfl | hx
        · exact m x List.mem_cons_self
        · rcases List.mem_cons.mp hx with rfl | hx
          · have hq := m q List.mem_cons_self
            by_cases hne : x.1 = q.1
            · omega
            · rw [lt_pair hne] at hb
              have : q.1 ≤ x.1 := by simpa using hb
              omega
          · exact m x (List.mem_cons_of_mem _ hx)
theorem dp_pairs {K : PySem.W.Frag} {H : Hp} : ∀ {xs : List V} {qs : List Pr}, Paired (PairAt H) xs qs → DpAll K H xs (qs.map pairD)
  | _, _, .nil => .nil
  | _, _, .cons ⟨t, e, h⟩ b => .cons (by rw [e]; exact .tup (SqT.of h) (.cons (.int _) (.cons (.str _) .nil))) (dp_pairs b)
theorem depth_pairs : ∀ qs : List Pr, PyData.depthAll (qs.map pairD) ≤ 1
  | [] => Nat.zero_le _
  | q :: qs => by
    show max (pairD q).depth (PyData.depthAll (qs.map pairD)) ≤ 1
    have := depth_pairs qs
    have e : (pairD q).depth = 1 := rfl
    omega
section
variable {X : Cx}
theorem call_minP (hc : X.calm = true) (hu : X.A.units + 64 < cLine) : CallR X (.builtin "min") (fun vs H Q => ∃ (a : Addr) (xs : List V) (qs : List Pr), vs = [.ref a] ∧ SqL X.K H a xs
    ∧ Paired (PairAt H) xs qs ∧ qs ≠ [] ∧ ∀ (v : V) (q : Pr), q ∈ qs → PairAt H v q → (∀ r ∈ qs, q.1 ≤ r.1) → Q v H) := by
  intro pins s σ H vs us Q I r h
  obtain ⟨a, xs, qs, rfl, hs, hp, ne, q⟩ := h
  obtain ⟨its, rv, hl, _⟩ := I.list hs
  rw [Vals.ref1 r]
  obtain ⟨as, rd⟩ := Dp.readsAll I (qs.map pairD) xs its (dp_pairs hp) rv
  cases qs with
  | nil => exact absurd rfl ne
  | cons p qs =>
    refine PySem.W.min_list_data (I.ok.hd hc) hl.isList (vs := its.toArray) (x := pairD p) (xs := qs.map pairD) (by simpa using rd) ?_ ?_ ?_
    · refine ⟨fun x hx y hy => ?_, fun x hx e => ?_⟩
      · have e1 : ∃ q, x = pairD q := by
          rcases List.mem_cons.mp hx with rfl | hx
          · exact ⟨p, rfl⟩
          · obtain ⟨q, _, e⟩ := List.mem_map.mp hx
            exact ⟨q, e.symm⟩
        have e2 : ∃ q, y = pairD q := by
          rcases List.mem_cons.mp hy with rfl | hy
          · exact ⟨p, rfl⟩
          · obtain ⟨q, _, e⟩ := List.mem_map.mp hy
            exact ⟨q, e.symm⟩
        obtain ⟨q1, rfl⟩ := e1
        obtain ⟨q2, rfl⟩ := e2
        rfl
      · subst e
        rcases List.mem_cons.mp hx with e | hx
        · cases e
        · obtain ⟨q, _, e⟩ := List.mem_map.mp hx
          cases e
    · have := depth_pairs (p :: qs)
      have e : PyData.depthAll (pairD p :: qs.map pairD) ≤ 1 := this
      omega
    · intro i v h' tk bs hv hrd kp
      obtain ⟨m, hm, em, hmin⟩ := minD_pair qs p
      rw [em] at hrd
      have hv' : its[i]? = some v := by simpa using hv
      have hi : i < its.length := (List.getElem?_eq_some_iff.mp hv').1
      have hxi : i < xs.length := by rw [rv.length]; exact hi
      obtain ⟨u, hu', ru⟩ := rv.get (List.getElem?_eq_getElem hxi)
      rw [hv'] at hu'
      obtain rfl : v = u := Option.some.inj hu'
      obtain ⟨qi, hqi, t, et, ht⟩ := L2.paired_get hp (List.getElem?_eq_getElem hxi)
      have I' : Inv X pins σ H { s with heap := h', toks := tk } := I.kept kp
      obtain ⟨as', rd2⟩ := Dp.reads I' (pairD qi) xs[i] v (by rw [et]; exact .tup (SqT.of ht) (.cons (.int _) (.cons (.str _) .nil))) ru
      have eq : pairD qi = pairD m := (Reads.unique rd2 _ _ hrd).1
      have e1 : qi = m := by
        have h1 : [PyData.int qi.1, PyData.str qi.2] = [PyData.int m.1, PyData.str m.2] := PyData.tuple.inj eq
        injection h1 with h2 h3
        injection h3 with h4 _
        exact Prod.ext (PyData.int.inj h2) (PyData.str.inj h4)
      subst e1
      exact ⟨xs[i], H, I', ru, q xs[i] qi hm ⟨t, et, ht⟩ hmin⟩
end
end FL
namespace FL
open PySem PySem.Spec PyProof.Rows L2
/-! ### the first rule that fits, by the index -/
theorem cut_pre_len (y : Str) (i : Nat) (h : i ≤ y.length) : (cutS y none (some (i : Int))).length = i := by
  rw [str_len]
  show ((y.cps.toList.drop (HT.sIx y.length 0 none)).take (HT.sIx y.length y.length (some (i : Int)) - HT.sIx y.length 0 none)).toArray.toList.length = i
  rw [HT.sIx_nat, HT.sIx_none]
  show ((y.cps.toList.drop 0).take (min i y.length - 0)).length = i
  rw [List.drop_zero, List.length_take, ← str_len]
  omega
theorem cut_le (y : Str) (i : Nat) : (cutS y none (some (i : Int))).length ≤ y.length := cutS_length y _ _
theorem turn_no : ∀ {rs : List Rule} {y : Str}, (∀ r ∈ rs, fits r y = false) → turn rs y = y
  | [], _, _ => rfl
  | r :: rs, y, h => by
    show (if fits r y = true then _ else turn rs y) = y
    rw [h r List.mem_cons_self, if_neg Bool.false_ne_true]
    exact turn_no fun r' hr' => h r' (List.mem_cons_of_mem _ hr')
theorem turn_at : ∀ {rs : List Rule} {y : Str} {i : Nat} {r : Rule}, rs[i]? = some r → fits r y = true → (∀ j r', j < i → rs[j]? = some r' → fits r' y = false) → turn rs y = turnR r y
  | [], _, _, _, h, _, _ => by simp at h
  | r0 :: rs, y, 0, r, h, hf, _ => by
    obtain rfl : r0 = r := by simpa using h
    show (if fits r0 y = true then _ else _) = _
    rw [if_pos hf]
  | r0 :: rs, y, i + 1, r, h, hf, hn => by
    show (if fits r0 y = true then _ else turn rs y) = _
    rw [hn 0 r0 (Nat.succ_pos _) rfl, if_neg Bool.false_ne_true]
    exact turn_at (i := i) (by simpa using h) hf fun j r' hj hr' => hn (j + 1) r' (by omega) (by simpa using hr')
def Ent (rs : List Rule) (y : Str) (q : Pr) : Prop := ∃ (i : Nat) (r : Rule), q.1 = (i : Int) ∧ rs[i]? = some r ∧ fits r y = true ∧ q.2 = turnR r y
/-- the rule at i is the first one with its key -/
def FirstKey (rs : List Rule) (i : Nat) (r : Rule) : Prop := rs[i]? = some r ∧ ∀ (j : Nat) (r' : Rule), j < i → rs[j]? = some r' → ¬ Is r' r.fr r.old
structure Found (rs : List Rule) (y : Str) (qs : List Pr) (n : Nat) : Prop where
  snd : ∀ q ∈ qs, Ent rs y q
  whl : ∀ i r, FirstKey rs i r → r.fr = false → r.old = y → ∃ q ∈ qs, q.1 = (i : Int)
  frt : ∀ i r, FirstKey rs i r → r.fr = true → fits r y = true → r.old.length < n → ∃ q ∈ qs, q.1 = (i : Int)
theorem fits_same {r r' : Rule} {y : Str} (h : Is r' r.fr r.old) : fits r' y = fits r y := by
  obtain ⟨f, o, n⟩ := r
  obtain ⟨f', o', n'⟩ := r'
  obtain ⟨h1, h2⟩ := h
  dsimp only at h1 h2
  subst h1
  subst h2
  rfl
theorem first_fit {rs : List Rule} {y : Str} {i : Nat} {r : Rule} (h : rs[i]? = some r) (hf : fits r y = true) (hn : ∀ j r', j < i → rs[j]? = some r' → fits r' y = false) : FirstKey rs i r :=
  ⟨h, fun j r' hj hr' his => by
    have := hn j r' hj hr'
    rw [fits_same his, hf] at this
    cases this⟩
theorem exists_first {rs : List Rule} {y : Str} : (∀ r ∈ rs, fits r y = false) ∨ ∃ (i : Nat) (r : Rule), rs[i]? = some r ∧ fits r y = true ∧ ∀ (j : Nat) (r' : Rule), j < i → rs[j]? = some r' → fits r' y = false := by
  induction rs with
  | nil => exact .inl fun _ h => nomatch h
  | cons r rs ih =>
    cases hf : fits r y with
    | true => exact .inr ⟨0, r, rfl, hf, fun j _ hj => absurd hj (Nat.not_lt_zero j)⟩
    | false =>
      rcases ih with h | ⟨i, r', h1, h2, h3⟩
      · refine .inl fun r' hr' => ?_
        rcases List.mem_cons.mp hr' with rfl | h'
        · exact hf
        · exact h r' h'
      · refine .inr ⟨i + 1, r', by simpa using h1, h2, fun j r2 hj hr2 => ?_⟩
        cases j with
        | zero =>
          obtain rfl : r = r2 := by simpa using hr2
          exact hf
        | succ j => exact h3 j r2 (by omega) (by simpa using hr2)
theorem fits_short {r : Rule} {y : Str} (hf : fits r y = true) (h : r.fr = true) : r.old.length ≤ y.length ∧ cutS y none (some (r.old.length : Int)) = r.old := by
  obtain ⟨f, o, n⟩ := r
  dsimp only at h
  subst h
  have e : cutS y none (some (o.length : Int)) = o := of_decide_eq_true hf
  refine ⟨?_, e⟩
  have := cut_le y o.length
  rw [e] at this
  exact this
theorem Found.turn {rs : List Rule} {y : Str} {qs : List Pr} {n : Nat} (h : Found rs y qs n) (hn : ∀ r ∈ rs, r.fr = true → fits r y = true → r.old.length < n) :
    (qs = [] → turn rs y = y) ∧ ∀ q ∈ qs, (∀ p ∈ qs, q.1 ≤ p.1) → turn rs y = q.2 := by
  have has : ∀ (i : Nat) (r : Rule), rs[i]? = some r → fits r y = true → (∀ (j : Nat) (r' : Rule), j < i → rs[j]? = some r' → fits r' y = false) → ∃ q ∈ qs, q.1 = (i : Int) := by
    intro i r h1 h2 h3
    have fk := first_fit h1 h2 h3
    cases hfr : r.fr with
    | true => exact h.frt i r fk hfr h2 (hn r (List.mem_of_getElem? h1) hfr h2)
    | false =>
      refine h.whl i r fk hfr ?_
      obtain ⟨f, o, nw⟩ := r
      dsimp only at hfr
      subst hfr
      have e : y = o := of_decide_eq_true h2
      exact e.symm
  rcases exists_first (rs := rs) (y := y) with hno | ⟨i, r, h1, h2, h3⟩
  · refine ⟨fun _ => turn_no hno, fun q hq _ => ?_⟩
    obtain ⟨j, r, _, e2, e3, _⟩ := h.snd q hq
    rw [hno r (List.mem_of_getElem? e2)] at e3
    cases e3
  · obtain ⟨q0, m0, e0⟩ := has i r h1 h2 h3
    refine ⟨fun e => ?_, fun q hq hmin => ?_⟩
    · rw [e] at m0
      cases m0
    · obtain ⟨j, r', e1, e2, e3, e4⟩ := h.snd q hq
      have hle := hmin q0 m0
      have hij : ¬ j < i := fun hj => by
        rw [h3 j r' hj e2] at e3
        cases e3
      have : j = i := by omega
      subst this
      rw [h1] at e2
      obtain rfl : r = r' := Option.some.inj e2
      rw [turn_at h1 h2 h3, e4]
theorem Found.start {rs : List Rule} {y : Str} {H : Hp} {kvs : List (List Key × V)} (ix : IdxOk H kvs rs) :
    (valV kvs (ky false y) = none ∧ Found rs y [] 0) ∨ (∃ (i : Nat) (t : Addr) (new : Str), valV kvs (ky false y) = some (.ref t) ∧ H t = some (.tup [.int (i : Nat), .str new]) ∧ Found rs y [((i : Int), new)] 0) := by
  rcases ix.2 false y with ⟨h1, h2⟩ | ⟨i, t, new, h1, h2, h3, h4⟩
  · refine .inl ⟨h1, (fun _ h => nomatch h), fun i r fk e1 e2 => ?_, fun _ _ _ _ _ h => absurd h (Nat.not_lt_zero _)⟩
    exact absurd ⟨e1, e2⟩ (h2 r (List.mem_of_getElem? fk.1))
  · refine .inr ⟨i, t, new, h1, h2, fun q hq => ?_, fun j r fk e1 e2 => ?_, fun _ _ _ _ _ h => absurd h (Nat.not_lt_zero _)⟩
    · rw [List.mem_singleton.mp hq]
      exact ⟨i, _, rfl, h3, decide_eq_true rfl, rfl⟩
    · refine ⟨_, List.mem_singleton.mpr rfl, ?_⟩
      have : ¬ j < i := fun hj => h4 j r hj fk.1 ⟨e1, e2⟩
      have : ¬ i < j := fun hj => fk.2 i _ hj h3 ⟨e1.symm, e2.symm⟩
      have : i = j := by omega
      rw [this]
theorem Found.next {rs : List Rule} {y : Str} {H : Hp} {kvs : List (List Key × V)} {qs : List Pr} {n : Nat} (ix : IdxOk H kvs rs) (h : Found rs y qs n) (hn : n ≤ y.length) :
    (valV kvs (ky true (cutS y none (some (n : Int)))) = none ∧ Found rs y qs (n + 1)) ∨ (∃ (i : Nat) (t : Addr) (new : Str), valV kvs (ky true (cutS y none (some (n : Int)))) = some (.ref t)
      ∧ H t = some (.tup [.int (i : Nat), .str new]) ∧ (∃ r ∈ rs, r.new = new) ∧ Found rs y (qs ++ [((i : Int), new ++ cutS y (some (n : Int)) none)]) (n + 1)) := by
  have hl := cut_pre_len y n hn
  have key : ∀ r : Rule, r.fr = true → fits r y = true → r.old.length < n + 1 → ¬ r.old.length < n → r.old = cutS y none (some (n : Int)) := fun r h1 h2 h3 h4 => by
    obtain ⟨_, e⟩ := fits_short h2 h1
    have : r.old.length = n := by omega
    rw [this] at e
    exact e.symm
  rcases ix.2 true (cutS y none (some (n : Int))) with ⟨h1, h2⟩ | ⟨i, t, new, h1, h2, h3, h4⟩
  · refine .inl ⟨h1, h.snd, h.whl, fun i r fk e1 e2 e3 => ?_⟩
    by_cases hlt : r.old.length < n
    · exact h.frt i r fk e1 e2 hlt
    · exact absurd ⟨e1, key r e1 e2 e3 hlt⟩ (h2 r (List.mem_of_getElem? fk.1))
  · refine .inr ⟨i, t, new, h1, h2, ⟨_, List.mem_of_getElem? h3, rfl⟩, fun q hq => ?_, fun j r fk e1 e2 => ?_, fun j r fk e1 e2 e3 => ?_⟩
    · rcases List.mem_append.mp hq with q' | q'
      · exact h.snd q q'
      · rw [List.mem_singleton.mp q']
        refine ⟨i, _, rfl, h3, ?_, ?_⟩
        · show decide (cutS y none (some ((cutS y none (some (n : Int))).length : Int)) = cutS y none (some (n : Int))) = true
          rw [hl]
          exact decide_eq_true rfl
        · show new ++ cutS y (some (n : Int)) none = new ++ cutS y (some ((cutS y none (some (n : Int))).length : Int)) none
          rw [hl]
    · obtain ⟨q, hq, e⟩ := h.whl j r fk e1 e2
      exact ⟨q, List.mem_append_left _ hq, e⟩
    · by_cases hlt : r.old.length < n
      · obtain ⟨q, hq, e⟩ := h.frt j r fk e1 e2 hlt
        exact ⟨q, List.mem_append_left _ hq, e⟩
      · have eo := key r e1 e2 e3 hlt
        refine ⟨_, List.mem_append_right _ (List.mem_singleton.mpr rfl), ?_⟩
        have : ¬ j < i := fun hj => h4 j r hj fk.1 ⟨e1, eo⟩
        have : ¬ i < j := fun hj => fk.2 i _ hj h3 ⟨e1.symm, eo.symm⟩
        have : i = j := by omega
        rw [this]
def spOnce : Sp := fun vs H Q _ => ∃ (d : Addr) (y : Str) (rs : List Rule), vs = [.ref d, .str y] ∧ IdxAt H d rs ∧ y.length ≤ 100000 ∧ (∀ r ∈ rs, r.old.length ≤ 40 ∧ r.new.length ≤ 1000) ∧
  ∀ H', Same H H' → Q (.str (FL.turn rs y)) H'
end FL
namespace FL
open PySem PySem.Spec PyProof.Rows L2
def RelayAt (C : Addr) (H : Hp) (p : Addr) (z : Str) (rs : List Rule) : Prop := ∃ (dx ra ia : Addr) (xs : List V), H p = some (.ins C dx (flds z ra ia)) ∧ H ra = some (.lst xs) ∧ RulesAt H xs rs ∧ IdxAt H ia rs
theorem RelayAt.same {C : Addr} {H H' : Hp} {p : Addr} {z : Str} {rs : List Rule} (h : RelayAt C H p z rs) (s : Same H H') : RelayAt C H' p z rs := by
  obtain ⟨dx, ra, ia, xs, h1, h2, h3, kvs, h4, h5, h6⟩ := h
  exact ⟨dx, ra, ia, xs, s _ _ h1, s _ _ h2, RulesAt.imp h3 fun t a e => s t _ e, kvs, s _ _ h4, h5, h6.imp fun t a e => s t _ e⟩
/-- its list of rules at ra -/
def RelayR (C : Addr) (H : Hp) (p : Addr) (z : Str) (rs : List Rule) (ra : Addr) : Prop := ∃ (dx ia : Addr) (xs : List V), H p = some (.ins C dx (flds z ra ia)) ∧ H ra = some (.lst xs) ∧ RulesAt H xs rs ∧ IdxAt H ia rs
theorem RelayR.at_ {C : Addr} {H : Hp} {p : Addr} {z : Str} {rs : List Rule} {ra : Addr} (h : RelayR C H p z rs ra) : RelayAt C H p z rs := by
  obtain ⟨dx, ia, xs, h1, h2, h3, h4⟩ := h
  exact ⟨dx, ra, ia, xs, h1, h2, h3, h4⟩
/-- another list is changed -/
theorem RelayR.updL {C : Addr} {H : Hp} {p L : Addr} {z : Str} {rs : List Rule} {ra : Addr} {vs ws : List V} (h : RelayR C H p z rs ra) (hL : H L = some (.lst vs)) (n : ra ≠ L) : RelayR C (upd H L (.lst ws)) p z rs ra := by
  obtain ⟨dx, ia, xs, h1, h2, h3, kvs, h4, h5, h6⟩ := h
  have tp : ∀ t b, H t = some (.tup b) → upd H L (.lst ws) t = some (.tup b) := fun t b e => by
    rw [upd_ne (ne_of e hL (by intro q; cases q))]
    exact e
  exact ⟨dx, ia, xs, by rw [upd_ne (ne_of h1 hL (by intro q; cases q))]; exact h1, by rw [upd_ne n]; exact h2, RulesAt.imp h3 tp, kvs, by rw [upd_ne (ne_of h4 hL (by intro q; cases q))]; exact h4, h5, h6.imp tp⟩
theorem RelayR.same {C : Addr} {H H' : Hp} {p : Addr} {z : Str} {rs : List Rule} {ra : Addr} (h : RelayR C H p z rs ra) (s : Same H H') : RelayR C H' p z rs ra := by
  obtain ⟨dx, ia, xs, h1, h2, h3, kvs, h4, h5, h6⟩ := h
  exact ⟨dx, ia, xs, s _ _ h1, s _ _ h2, RulesAt.imp h3 fun t a e => s t _ e, kvs, s _ _ h4, h5, h6.imp fun t a e => s t _ e⟩
/-- what is needed of the class Relay -/
structure RTxt (K : PySem.W.Frag) (mg : Str → Option Value) (C : Addr) : Prop where
  cl : Cls K C
  nS : NoAttr K C "_signs"
  nR : NoAttr K C "_rules"
  nI : NoAttr K C "_index"
  mgC : mg "Relay" = some (.ref C)
def spInit (C : Addr) : Sp := fun vs H Q _ => ∃ (p dx : Addr) (z : Str) (v : V) (rs : List Rule), vs = [.ref p, .str z, v] ∧ H p = some (.ins C dx []) ∧ Abc z ∧ RuArg H v rs ∧
  (∀ r ∈ rs, RuleOk z 40 r) ∧ rs.length ≤ 400 ∧ ∀ (H' : Hp) (ra : Addr), RelayR C H' p z rs ra → H ra = none → But p H H' → Q .non H'
end FL
namespace FL
open PySem PySem.Spec PyProof.Rows L2
/-! ### what the top left, told of defs at any address -/
def seenFn (K : PySem.W.Frag) (a : Addr) : He.FnV :=
  (K.lookup a).bind fun o => match o.data with
    | .func d => some (d.name, d.qualname, d.params, d.body, d.scope, d.globals, d.closure, d.defaults, d.builtins)
    | _ => none
def seenCode (K : PySem.W.Frag) (a : Addr) (q : Str) : Bool :=
  match K.lookup a with
  | some o => (match o.data with
    | .func d => PySem.W.codeIn K d.code q && PySem.W.keepIn K (.ref a)
    | _ => false)
  | none => false
/-- a def: where it is found, its names, its statement -/
structure DA where
  ad : PySem.W.Frag → Addr
  nm : Str
  qn : Str
  st : Stmt
def DA.due (d : DA) : He.FnV := some (d.nm, d.qn, defArgs d.st, .stmts (defBody d.st), defScope d.st, mainGlobals, [], .none, builtinsNs)
theorem DA.fn {K : PySem.W.Frag} {d : DA} (e : seenFn K (d.ad K) = d.due) (c : seenCode K (d.ad K) d.qn = true) : ∃ fd, Fun K d.nm d.qn d.st (d.ad K) fd := by
  unfold seenFn DA.due at e
  unfold seenCode at c
  cases q : K.lookup (d.ad K) with
  | none =>
    rw [q] at e
    cases e
  | some o =>
    obtain ⟨oc, od, dt, sl⟩ := o
    rw [q] at e c
    cases dt with
    | func z =>
      obtain ⟨z1, z2, z3, z4, z5, z6, z7, z8, z9, z10, z11, z12, z13, z14, z15⟩ := z
      simp only [Option.bind_some, Option.some.injEq, Prod.mk.injEq] at e
      obtain ⟨rfl, rfl, rfl, rfl, rfl, rfl, rfl, rfl, rfl⟩ := e
      obtain ⟨c1, c2⟩ := Bool.and_eq_true_iff.mp c
      exact ⟨_, fun_mk q c1 c2⟩
    | _ => cases e
def lookF (ds : List DA) (ex : PySem.W.Frag → Bool) (K : PySem.W.Frag) : Bool × List He.FnV :=
  (ex K && ds.all fun d => seenCode K (d.ad K) d.qn, ds.map fun d => seenFn K (d.ad K))
def dueF (ds : List DA) : Bool × List He.FnV := (true, ds.map DA.due)
def hookF (n : Nat) (ds : List DA) (ex : PySem.W.Frag → Bool) : PySem.W.Hook where
  α := Bool × List He.FnV
  obs := fun s => lookF ds ex (He.frG s.heap.get? (He.asD s.heap.get? n))
  val := fun _ => dueF ds
  says := fun _ h => ∃ K : PySem.W.Frag, K.In h ∧ lookF ds ex K = dueF ds
  of := fun _ _ e => ⟨_, He.frG_in, e⟩
  keeps := fun _ _ _ ⟨K, i, c⟩ k => ⟨K, PySem.W.Frag.In.keeps i k, c⟩
def obF (n : Nat) (ds : List DA) (ex : PySem.W.Frag → Bool) (g : Addr → Option Obj) : Bool × List He.FnV := lookF ds ex (He.frG g (He.asD g n))
theorem obF_eq {n : Nat} {ds : List DA} {ex : PySem.W.Frag → Bool} (s : PySem.W.SharedT) : obF n ds ex (HandSHeadRun.getT s) = (hookF n ds ex).obs s.abs := by
  have e : HandSHeadRun.getT s = s.abs.heap.get? := funext fun a => HandSHeadRun.getT_eq s a
  rw [e]
  rfl
theorem look_ex {ds : List DA} {ex : PySem.W.Frag → Bool} {K : PySem.W.Frag} (c : lookF ds ex K = dueF ds) : ex K = true :=
  (Bool.and_eq_true_iff.mp (congrArg Prod.fst c)).1
theorem look_fn {ds : List DA} {ex : PySem.W.Frag → Bool} {K : PySem.W.Frag} (c : lookF ds ex K = dueF ds) (i : Nat) {d : DA} (h : ds[i]? = some d) : ∃ fd, Fun K d.nm d.qn d.st (d.ad K) fd := by
  have c1 := (Bool.and_eq_true_iff.mp (congrArg Prod.fst c)).2
  have c2 : ds.map (fun d => seenFn K (d.ad K)) = ds.map DA.due := congrArg Prod.snd c
  have c3 : (ds.map fun d => seenFn K (d.ad K))[i]? = (ds.map DA.due)[i]? := by rw [c2]
  rw [List.getElem?_map, List.getElem?_map, h] at c3
  exact DA.fn (Option.some.inj c3) (List.all_eq_true.mp c1 d (List.mem_of_getElem? h))
end FL
namespace FL
open PySem PySem.Spec PyProof.Rows L2
/-! ### the end of a law whose promise wants that no repr is under way -/
/-- the script alone, locked, unless the module holds it -/
def onlyH (K : PySem.W.Frag) (a : Addr) (o : Obj) (ns : List Int) : Hp := fun b => if b = a ∧ K.lookup a = none then some (.frz o (.lst (ns.map V.int))) else none
theorem only_at {K : PySem.W.Frag} {a b : Addr} {o : Obj} {ns : List Int} {u : HO} (h : onlyH K a o ns b = some u) : b = a ∧ K.lookup a = none ∧ u = .frz o (.lst (ns.map V.int)) := by
  unfold onlyH at h
  by_cases c : b = a ∧ K.lookup a = none
  · rw [if_pos c] at h
    exact ⟨c.1, c.2, (Option.some.inj h).symm⟩
  · rw [if_neg c] at h
    cases h
theorem endG {P : Program} {w : World} {K : PySem.W.Frag} {mg mb : Str → Option Value} {k : Nat} {fa a : Addr} {fd : FuncData} {x : Str} {sp : Sp} {s : Shared} {vs : List Value} {ns : List Int}
    (kx : K.In s.heap) (gl : s.heap.Ns mainGlobals mg) (bl : s.heap.Ns builtinsNs mb) (bb : ∀ y : Str, y ≠ "__name__" → mb y = bootBuiltins y) (nl : s.heap.NoLimit) (ng : s.gens = #[])
    (oa : s.heap.get? a = some { cls := .type "list", data := .seq vs.toArray }) (hi : IntsAre vs ns) (le : ns.length ≤ sizeLine) (rm : Room k callerA)
    (F : ∀ base : Heap, K.In base → base.Ns mainGlobals mg → FnG P w K mg base CX0 k fa fd [x] sp) (bd : ∀ (s : Shared) (u : Value), BindsTo s fd ⟨[u], []⟩ [(x, u)])
    (pr : ∀ H : Hp, SqL K H a (ns.map V.int) → sp [.ref a] H (fun v _ => v = .bl true) fun _ _ _ => False) :
    codeAny (model P w) callerA (.call (.ref fa) ⟨[.ref a], []⟩) (fun r t => r = .ok (.ret (.bool true)) ∧ OldK s.heap t.heap ∧ t.os = s.os ∧ AllBare t.gens) s := by
  have rv := vals_ints hi
  have lv := hi.length
  let o : Obj := { cls := .type "list", data := .seq vs.toArray }
  let H : Hp := onlyH K a o ns
  have sq : SqL K H a (ns.map V.int) := by
    cases q : K.lookup a with
    | none => exact .inl (.inr ⟨o, if_pos ⟨rfl, q⟩⟩)
    | some o' =>
      have e := kx a o' q
      rw [oa] at e
      cases e
      exact .inr ⟨_, vs.toArray, _, q, rfl, rfl, rfl, by rw [List.size_toArray, lv]; exact le, by simpa using rv⟩
  have ok : HOk P w H s.heap := fun b u e => by
    obtain ⟨rfl, _, rfl⟩ := only_at e
    exact ⟨oa, by rw [List.length_map]; exact le, vs, _, rv, oa⟩
  have stay : ∀ {b : Addr} {m : Str → Option Value}, s.heap.Ns b m → (hidT s.heap H).Ns b m := fun {b m} n => by
    obtain ⟨ob, es, ep, e, d, r⟩ := n
    refine ⟨ob, es, ep, hidT_get e ?_, d, r⟩
    cases q : H b with
    | none => rfl
    | some u =>
      obtain ⟨rfl, _, _⟩ := only_at q
      rw [oa] at e
      cases e
      cases d
  have kb : K.In (hidT s.heap H) := fun b ob e => by
    refine hidT_get (kx b ob e) ?_
    cases q : H b with
    | none => rfl
    | some u =>
      obtain ⟨rfl, n, _⟩ := only_at q
      rw [n] at e
      cases e
  have md : Mod K mg (hidT s.heap H) := ⟨kb, stay gl, ⟨mb, stay bl, bb⟩, by
    obtain ⟨mc, n1, n2⟩ := nl
    exact ⟨mc, stay n1, n2⟩⟩
  have env : Env0 P w K mg (hidT s.heap H) callerA [] s H :=
    ⟨rfl, md, fun b ob e => of_hidT e, Nat.le_of_eq (hidT_size _ _), trivial, fun b q => absurd (show b ∈ ([] : List Addr) from q) (by simp), ok, .of_eq ng⟩
  have run := (F _ kb (stay gl)).goes callerA [] s H ⟨[.ref a], []⟩ [.ref a] [.ref a] _ _ rm rfl env (bd s (.ref a)) (.cons rfl .nil) (pr H sq)
  refine codeAny_mono run fun r t z => ?_
  cases r with
  | error e => exact False.elim z
  | ok fl =>
    cases fl with
    | next => exact False.elim z
    | brk => exact False.elim z
    | cont => exact False.elim z
    | ret u =>
      obtain ⟨v, H', so, br, un, ok', rr, q⟩ := z
      obtain rfl : v = .bl true := q
      obtain rfl : u = Value.bool true := rr
      refine ⟨rfl, OldK.of_keep fun b ob e => ?_, so, br⟩
      cases q : H b with
      | none => exact un.keep b ob e q (by intro n; exact absurd (show b ∈ ([] : List Addr) from n) (by simp)) (by simp)
      | some u =>
        obtain ⟨rfl, n, rfl⟩ := only_at q
        obtain ⟨e2, _⟩ := ok' b _ (un.frzs b o _ q)
        rw [oa] at e
        cases e
        exact e2
theorem walkG {l : PySem.W.OpenLaw} {n k : Nat} {q : Program} {loose : List Str} {XP : (Str → Option Value) → Heap → Prop} {YP : World → Heap → Prop} {d : DefRec} {x : Str} (hn : l.most = some n) (hs : n ≤ sizeLine) (hd : d.params.defaults = []) (rm : Room k callerA)
    (F : ∀ (w : World) (mg : Str → Option Value) (fa : Addr) (h : Heap), YP w h → h.Ns mainGlobals mg → mg d.name = some (.ref fa) → ∃ (K : PySem.W.Frag) (fd : FuncData) (sp : Sp), K.In h ∧ (∀ (s : Shared) (u : Value), BindsTo s fd ⟨[u], []⟩ [(x, u)])
      ∧ (∀ (H : Hp) (a : Addr) (ns : List Int), ns.length ≤ n → SqL K H a (ns.map V.int) → sp [.ref a] H (fun v _ => v = .bl true) fun _ _ _ => False)
      ∧ ∀ base : Heap, K.In base → base.Ns mainGlobals mg → FnG l.prog w K mg base CX0 k fa fd [x] sp) :
    PySem.W.WalkO q loose XP YP l.row.toRowW d [] (fun f vs => PySem.call f vs) := by
  refine Att.attach_call hn hd ?_
  intro w s₀ s₁ mg mb fa o pm cd doc a vs ns G Y ho hd' hcd hmg hobj hints hlen hg
  obtain ⟨K, fd, sp, kx, bd, pr, FF⟩ := F w mg fa _ Y G.T.g hmg
  exact endG kx G.T.g G.T.b G.T.builtins G.T.nolimit hg hobj hints (Nat.le_trans hlen hs) rm FF bd fun H sq => pr H a ns hlen sq
end FL
/-! errors with one field, raised and caught -/
namespace FL
open PySem PySem.Spec PyProof.Rows L2
/-- what the written part says of an error's class at C, of its __init__ at fI -/
structure ErC (K : PySem.W.Frag) (mg : Str → Option Value) (x n : Str) (C fI : Addr) : Prop where
  gC : mg x = some (.ref C)
  oex : OexC K C
  iC : PySem.W.findIn K (.ref C) "__init__" = some (some (.ref fI))
  tI : PySem.W.typeIn K (.ref fI) = some (.type "function")
  no : PySem.W.findIn K (.ref C) n = some none
  xf : XfC K C
  ec : ExcC K C
/-- __init__(self, value): self.value = value -/
def spErr (K : PySem.W.Frag) (n : Str) : Sp := fun vs H Q _ => ∃ (a C : Addr) (v : V), vs = [.ref a, v] ∧ OexC K C ∧ PySem.W.findIn K (.ref C) n = some none ∧ H a = some (exo a C none) ∧
  ∀ dx, H dx = none → dx ≠ a → Q .non (upd (upd H dx (exd dx [(n, v)])) a (exo a C (some dx)))
section
variable {P : Program} {w : World} {K : PySem.W.Frag} {mg : Str → Option Value} {base : Heap}
theorem ok_err {q : Str} {st : Stmt} {n : Str} {f : Addr} {fd : FuncData} {p1 p2 p3 p4 : Pos} (F : Fun K "__init__" q st f fd) (S : FnScope ["self", n] ["self", n] (defScope st))
    (hb : defBody st = [.Assign [.Attribute (.Name "self" p1) n p2] (.Name n p3) p4]) (hs : Vis (defScope st) "self") (hn : Vis (defScope st) n) (hd : (n == ("__debug__" : Str)) = false) (hcd : (n == ("__classdict__" : Str)) = false)
    (hsw : ∀ env : Env, swapsWith (.Name n p3) (some (.Attribute (.Name "self" p1) n p2)) p4.line env = pure false) :
    FnOk P w K mg base CX0 1 f fd ["self", n] (spErr K n) := by
  refine F.ok S (fun vs H Q E h => ?_) (fun cdv A outer s H vs Q E hr h => ?_)
  · obtain ⟨_, _, _, rfl, _⟩ := h
    rfl
  · obtain ⟨a, C, v, rfl, T, hno, ha, k⟩ := h
    rw [hb]
    refine ⟨_, pss_one (ps_ost (pe_var (i := 0) rfl hs) (pe_var (i := 1) rfl hn hd hcd) (hsw _)), ?_⟩
    exact ⟨_, rfl, _, rfl, a, C, rfl, T, hno, .inl ⟨ha, fun dx h1 h2 => k dx h1 h2⟩⟩
end
theorem del_upds {H : Hp} {a d : Addr} {o1 o2 o3 o4 : HO} (n : H a = none) (hd : d ≠ a) : upd (del (upd (upd (upd H a o1) d o2) a o3) a) d o4 = upd H d o4 := by
  funext b
  by_cases h1 : b = d
  · rw [h1, upd_same, upd_same]
  · rw [upd_ne h1, upd_ne h1]
    by_cases h2 : b = a
    · rw [h2, del_same, n]
    · rw [del_ne h2, upd_ne h2, upd_ne h1, upd_ne h2]
/-- what the making of an error asks -/
theorem mkErr {K : PySem.W.Frag} {n : Str} {C : Addr} {v : V} {H : Hp} {Q : XK} (T : OexC K C) (no : PySem.W.findIn K (.ref C) n = some none) (h : ∀ d, H d = none → Q (.ref C) (some d) (upd H d (.xd [(n, v)]))) :
    [v].length ≤ 1000 ∧ ∀ a, H a = none → spErr K n (.ref a :: ([v] ++ [])) (upd H a (exo a C none))
      (fun u H2 => u = .non ∧ ∃ (d : Addr) (fs : List (Str × V)), H2 a = some (exo a C (some d)) ∧ H2 d = some (exd d fs) ∧ H d = none ∧ Q (.ref C) (some d) (upd (del H2 a) d (.xd fs))) (fun _ _ _ => False) := by
  refine ⟨by show 1 ≤ 1000; decide, fun a ha => ⟨a, C, v, rfl, T, no, upd_same, fun dx h1 h2 => ⟨rfl, dx, [(n, v)], upd_same, ?_, ?_, ?_⟩⟩⟩
  · rw [upd_ne h2, upd_same]
  · rw [upd_ne h2] at h1
    exact h1
  · rw [upd_ne h2] at h1
    rw [del_upds ha h2]
    exact h dx h1
/-- all but tables stays -/
abbrev Ext := LamX.ExtN
theorem ext_of {H H' : Hp} (s : Same H H') : Ext H H' := .of s
end FL
namespace FL
open PySem PySem.Spec PyProof.Rows L2 LamX
/-- a wish may count on as many slots as there are names -/
theorem takes_len {X : Cx} {W : WX} (tk : Takes X W) : Takes X (fun c d τ G => τ.length = X.N.length → W c d τ G) := by
  rintro u s ⟨e, B, sB, pins, τ, G, c, d, q, I, x1, x2, x3, x4, x5, x6, w⟩
  exact tk u s ⟨e, B, sB, pins, τ, G, c, d, q, I, x1, x2, x3, x4, x5, x6, w I.len⟩
/-- as okG, with the def's code object -/
theorem okGC {P : Program} {w : World} {K : PySem.W.Frag} {mg : Str → Option Value} {base : Heap} {x qual : Str} {st : Stmt} {f : Addr} {fd : FuncData} {N ps : List Str} {k : Nat} {sp : Sp} {c : Addr}
    (F : Fun K x qual st f fd) (code : fd.code = .ref c) (S : FnScope N ps (defScope st))
    (size : ∀ vs H Q E, sp vs H Q E → vs.length = ps.length)
    (body : ∀ (A : Around) (outer : List Env) (s : Shared) (H : Hp) (vs : List V) (Q : VK) (E : XK),
      Room k (A.deeper (envOfC qual (defScope st) s.heap.objs.size f (.ref c))) → A.guards = some [] → sp vs H Q E →
      ∃ t, PSs (cxOf CX0 P w K mg base N qual (defScope st) f (.ref c) A outer s H E).nox (defBody st) t
        ∧ t { nx := fun _ H' => Q .non H', rt := Q } (start N vs) H) :
    FnG P w K mg base CX0 (k + 1) f fd ps sp := by
  obtain ⟨oc, od, kV, doc, pm, an, cdv, ct, osl, rfl, lk, hc⟩ := F.ex
  obtain rfl : cdv = .ref c := code
  refine ⟨size, ?_⟩
  intro A outer s H args us vs Q E hr hg e0 hb r hsp
  refine LamX.run_ofS (k := k) lk hc S hr e0 hb r (size _ _ _ _ hsp) ?_
  intro room
  obtain ⟨t, h1, h2⟩ := body A outer s H vs Q E room hg hsp
  exact ⟨t, h1.nox, h2⟩
end FL
namespace FL
open PySem PySem.Spec PyProof.Rows L2 LamX
/-! ### the end of a law one of whose defs makes lambdas: its table of code objects at T0 -/
abbrev bareTab : Obj := { cls := .none, data := .fields #[] }
def withT (T0 : Addr) (G : Hp) : Hp := fun b => if b = T0 then some (.tbl #[]) else G b
theorem with_at {T0 b : Addr} {G : Hp} {u : HO} (h : withT T0 G b = some u) : (b = T0 ∧ u = .tbl #[]) ∨ (b ≠ T0 ∧ G b = some u) := by
  unfold withT at h
  by_cases c : b = T0
  · rw [if_pos c] at h
    exact .inl ⟨c, (Option.some.inj h).symm⟩
  · rw [if_neg c] at h
    exact .inr ⟨c, h⟩
theorem endT {P : Program} {w : World} {K : PySem.W.Frag} {mg mb : Str → Option Value} {k : Nat} {fa a c0 T0 : Addr} {fd : FuncData} {x : Str} {sp : Sp} {s : Shared} {vs : List Value} {ns : List Int}
    (kx : K.In s.heap) (gl : s.heap.Ns mainGlobals mg) (bl : s.heap.Ns builtinsNs mb) (bb : ∀ y : Str, y ≠ "__name__" → mb y = bootBuiltins y) (nl : s.heap.NoLimit) (ng : s.gens = #[])
    (tab : s.heap.get? T0 = some bareTab) (out : K.lookup T0 = none) (cd : PySem.W.CodeHd s.heap c0 T0)
    (bmod : ∃ (bm : Addr) (ob : Obj), mg "__builtins__" = some (.ref bm) ∧ bm ≠ builtinsNs ∧ s.heap.get? bm = some ob ∧ ob.cls = .type "module" ∧ ob.dict = some builtinsNs ∧ ob.data = .plain)
    (oa : s.heap.get? a = some { cls := .type "list", data := .seq vs.toArray }) (hi : IntsAre vs ns) (le : ns.length ≤ sizeLine) (rm : Room k callerA)
    (F : ∀ base : Heap, K.In base → base.Ns mainGlobals mg → TabB base mg c0 T0 → FnG P w K mg base CX0 k fa fd [x] sp) (bd : ∀ (s : Shared) (u : Value), BindsTo s fd ⟨[u], []⟩ [(x, u)])
    (pr : ∀ H : Hp, H T0 = some (.tbl #[]) → SqL K H a (ns.map V.int) → sp [.ref a] H (fun v _ => v = .bl true) fun _ _ _ => False) :
    codeAny (model P w) callerA (.call (.ref fa) ⟨[.ref a], []⟩) (fun r t => r = .ok (.ret (.bool true)) ∧ OldK s.heap t.heap ∧ t.os = s.os ∧ AllBare t.gens) s := by
  have rv := vals_ints hi
  have lv := hi.length
  let o : Obj := { cls := .type "list", data := .seq vs.toArray }
  let H : Hp := withT T0 (onlyH K a o ns)
  have na : a ≠ T0 := fun z => by
    rw [z, tab] at oa
    cases oa
  have hT : H T0 = some (.tbl #[]) := if_pos rfl
  have hA : H a = onlyH K a o ns a := if_neg na
  have sq : SqL K H a (ns.map V.int) := by
    cases q : K.lookup a with
    | none => exact .inl (.inr ⟨o, hA.trans (if_pos ⟨rfl, q⟩)⟩)
    | some o' =>
      have e := kx a o' q
      rw [oa] at e
      cases e
      exact .inr ⟨_, vs.toArray, _, q, rfl, rfl, rfl, by rw [List.size_toArray, lv]; exact le, by simpa using rv⟩
  have ok : HOk P w H s.heap := fun b u e => by
    rcases with_at e with ⟨rfl, rfl⟩ | ⟨_, e⟩
    · exact tab
    · obtain ⟨rfl, _, rfl⟩ := only_at e
      exact ⟨oa, by rw [List.length_map]; exact le, vs, _, rv, oa⟩
  have seen : ∀ {b : Addr} {u : HO}, H b = some u → s.heap.get? b = some bareTab ∨ s.heap.get? b = some o := fun {b u} e => by
    rcases with_at e with ⟨rfl, _⟩ | ⟨_, e⟩
    · exact .inl tab
    · obtain ⟨rfl, _, _⟩ := only_at e
      exact .inr oa
  have stays : ∀ {b : Addr} {u : Obj}, s.heap.get? b = some u → (∀ v n, u.data ≠ .seq v n) → u.data ≠ .fields #[] → (hidT s.heap H).get? b = some u := fun {b u} e h1 h2 => by
    refine hidT_get e ?_
    cases q : H b with
    | none => rfl
    | some v =>
      rcases seen q with z | z
      · rw [e] at z
        cases z
        exact absurd rfl h2
      · rw [e] at z
        cases z
        exact absurd rfl (h1 _ _)
  have stay : ∀ {b : Addr} {m : Str → Option Value}, s.heap.Ns b m → (hidT s.heap H).Ns b m := fun {b m} n => by
    obtain ⟨ob, es, ep, e, d, r⟩ := n
    refine ⟨ob, es, ep, stays e (fun v n z => ?_) (fun z => ?_), d, r⟩
    · rw [d] at z
      cases z
    · rw [d] at z
      cases z
  have kb : K.In (hidT s.heap H) := fun b ob e => by
    refine hidT_get (kx b ob e) ?_
    cases q : H b with
    | none => rfl
    | some u =>
      rcases with_at q with ⟨rfl, _⟩ | ⟨_, q⟩
      · rw [out] at e
        cases e
      · obtain ⟨rfl, n, _⟩ := only_at q
        rw [n] at e
        cases e
  have md : Mod K mg (hidT s.heap H) := ⟨kb, stay gl, ⟨mb, stay bl, bb⟩, by
    obtain ⟨mc, n1, n2⟩ := nl
    exact ⟨mc, stay n1, n2⟩⟩
  have tb : TabB (hidT s.heap H) mg c0 T0 := by
    refine ⟨?_, ?_, ?_⟩
    · obtain ⟨u, us, f1, f2, f3, f4, f5, f6, f7, e1, r1, r2, r3, rest⟩ := cd
      refine ⟨u, us, f1, f2, f3, f4, f5, f6, f7, stays e1 (fun v n z => ?_) (fun z => ?_), r1, r2, r3, rest⟩
      · rw [r2] at z
        cases z
      · rw [r2] at z
        cases z
        simp at r3
    · obtain ⟨bm, ob, m1, m2, m3, m4, m5, m6⟩ := bmod
      refine ⟨bm, ob, m1, m2, fun q => ?_, fun q => ?_, stays m3 (fun v n z => ?_) (fun z => ?_), m4, m5, m6⟩
      · obtain ⟨u, es, ep, e, d, _⟩ := gl
        rw [q, e] at m3
        cases m3
        rw [d] at m6
        cases m6
      · rw [q, tab] at m3
        cases m3
        cases m6
      · rw [m6] at z
        cases z
      · rw [m6] at z
        cases z
    · intro q
      obtain ⟨u, es, ep, e, d, _⟩ := gl
      rw [q, tab] at e
      cases e
      cases d
  have env : Env0 P w K mg (hidT s.heap H) callerA [] s H :=
    ⟨rfl, md, fun b ob e => of_hidT e, Nat.le_of_eq (hidT_size _ _), trivial, fun b q => absurd (show b ∈ ([] : List Addr) from q) (by simp), ok, .of_eq ng⟩
  have run := (F _ kb (stay gl) tb).goes callerA [] s H ⟨[.ref a], []⟩ [.ref a] [.ref a] _ _ rm rfl env (bd s (.ref a)) (.cons rfl .nil) (pr H hT sq)
  refine codeAny_mono run fun r t z => ?_
  cases r with
  | error e => exact False.elim z
  | ok fl =>
    cases fl with
    | next => exact False.elim z
    | brk => exact False.elim z
    | cont => exact False.elim z
    | ret u =>
      obtain ⟨v, H', so, br, un, ok', rr, q⟩ := z
      obtain rfl : v = .bl true := q
      obtain rfl : u = Value.bool true := rr
      obtain ⟨more, gm⟩ : ∃ more : Array Value, t.heap.get? T0 = some { cls := .none, data := .fields more } := by
        obtain ⟨m, z⟩ := un.tbls T0 #[] hT
        exact ⟨_, ok' T0 _ z⟩
      have old : ∀ b ob, b ≠ T0 → s.heap.get? b = some ob → t.heap.get? b = some ob := fun b ob nb e => by
        cases q : H b with
        | none => exact un.keep b ob e q (by intro n; exact absurd (show b ∈ ([] : List Addr) from n) (by simp)) (by simp)
        | some u =>
          rcases with_at q with ⟨z, _⟩ | ⟨_, q2⟩
          · exact absurd z nb
          · obtain ⟨rfl, n, rfl⟩ := only_at q2
            obtain ⟨e2, _⟩ := ok' b _ (un.frzs b o _ q)
            rw [oa] at e
            cases e
            exact e2
      refine ⟨rfl, ⟨fun b ob e => ?_, fun b ob e => ?_⟩, so, br⟩
      · by_cases z : b = T0
        · subst z
          rw [tab] at e
          cases e
          exact .inr (.inl ⟨(cd.tab tab).isCodeTable, rfl, #[], more, rfl, by rw [Array.empty_append]; exact gm⟩)
        · exact .inl (old b ob z e)
      · by_cases z : b = T0
        · subst z
          exact ⟨_, gm⟩
        · exact ⟨ob, old b ob z e⟩
theorem walkT {l : PySem.W.OpenLaw} {n k : Nat} {q : Program} {loose : List Str} {XP : (Str → Option Value) → Heap → Prop} {YP : World → Heap → Prop} {d : DefRec} {x : Str} (hn : l.most = some n) (hs : n ≤ sizeLine) (hd : d.params.defaults = []) (rm : Room k callerA)
    (F : ∀ (w : World) (mg : Str → Option Value) (fa : Addr) (h : Heap), YP w h → h.Ns mainGlobals mg → mg d.name = some (.ref fa) → ∃ (K : PySem.W.Frag) (fd : FuncData) (sp : Sp) (c0 T0 : Addr), K.In h ∧ h.get? T0 = some bareTab ∧ K.lookup T0 = none ∧ PySem.W.CodeHd h c0 T0
      ∧ (∀ (s : Shared) (u : Value), BindsTo s fd ⟨[u], []⟩ [(x, u)])
      ∧ (∀ (H : Hp) (a : Addr) (ns : List Int), ns.length ≤ n → H T0 = some (.tbl #[]) → SqL K H a (ns.map V.int) → sp [.ref a] H (fun v _ => v = .bl true) fun _ _ _ => False)
      ∧ ∀ base : Heap, K.In base → base.Ns mainGlobals mg → TabB base mg c0 T0 → FnG l.prog w K mg base CX0 k fa fd [x] sp) :
    PySem.W.WalkO q loose XP YP l.row.toRowW d [] (fun f vs => PySem.call f vs) := by
  refine Att.attach_call hn hd ?_
  intro w s₀ s₁ mg mb fa o pm cd doc a vs ns G Y ho hd' hcd hmg hobj hints hlen hg
  obtain ⟨K, fd, sp, c0, T0, kx, tab, out, code, bd, pr, FF⟩ := F w mg fa _ Y G.T.g hmg
  exact endT kx G.T.g G.T.b G.T.builtins G.T.nolimit hg tab out code G.T.bmain hobj hints (Nat.le_trans hlen hs) rm FF bd fun H t0 sq => pr H a ns hlen t0 sq
end FL
namespace FL
open PySem PySem.Spec PyProof.Rows L2 LamX
/-! ### what the top left, where a def makes lambdas -/
abbrev Saw : Type := (Bool × List He.FnV) × Bool
def sawT (n : Nat) (ds : List DA) (ex : PySem.W.Frag → Bool) (p : He.Defn) (g : Addr → Option Obj) : Saw :=
  (lookF ds ex (He.frT g (He.asD g n)), He.tabsB g [p] (He.frT g (He.asD g n)))
structure SaysT (ds : List DA) (ex : PySem.W.Frag → Bool) (p : He.Defn) (h : Heap) (K : PySem.W.Frag) : Prop where
  seen : lookF ds ex K = dueF ds
  code : PySem.W.codeHdIn K (He.cT K p).1 (He.cT K p).2 = true
  out : K.lookup (He.cT K p).2 = none
  tab : h.get? (He.cT K p).2 = some bareTab
theorem says_of {n : Nat} {ds : List DA} {ex : PySem.W.Frag → Bool} {p : He.Defn} {h : Heap} (e : sawT n ds ex p h.get? = (dueF ds, true)) : SaysT ds ex p h (He.frT h.get? (He.asD h.get? n)) := by
  have e1 : lookF ds ex (He.frT h.get? (He.asD h.get? n)) = dueF ds := congrArg Prod.fst e
  have e2 : He.tabsB h.get? [p] (He.frT h.get? (He.asD h.get? n)) = true := congrArg Prod.snd e
  obtain ⟨a1, a2⟩ := Bool.and_eq_true_iff.mp (List.all_eq_true.mp e2 p List.mem_cons_self)
  cases q : h.get? (He.cT (He.frT h.get? (He.asD h.get? n)) p).2 with
  | none =>
    rw [q] at a2
    cases a2
  | some o =>
    rw [q] at a2
    exact ⟨e1, a1, He.frT_none q a2, by rw [q, He.emptyTab_eq a2]⟩
def hookT (n : Nat) (ds : List DA) (ex : PySem.W.Frag → Bool) (p : He.Defn) : PySem.W.Hook where
  α := Saw
  obs := fun s => sawT n ds ex p s.heap.get?
  val := fun _ => (dueF ds, true)
  says := fun _ h => ∃ K : PySem.W.Frag, K.In h ∧ SaysT ds ex p h K
  of := fun _ _ e => ⟨_, He.frT_in, says_of e⟩
  keeps := fun _ _ _ ⟨K, i, c⟩ k => ⟨K, PySem.W.Frag.In.keeps i k, c.seen, c.code, c.out, k _ _ c.tab⟩
def obT (n : Nat) (ds : List DA) (ex : PySem.W.Frag → Bool) (p : He.Defn) (s : PySem.W.SharedT) : Saw := sawT n ds ex p (HandSHeadRun.getT s)
theorem obT_eq {n : Nat} {ds : List DA} {ex : PySem.W.Frag → Bool} {p : He.Defn} (s : PySem.W.SharedT) : obT n ds ex p s = (hookT n ds ex p).obs s.abs := by
  have e : HandSHeadRun.getT s = s.abs.heap.get? := funext fun a => HandSHeadRun.getT_eq s a
  unfold obT
  rw [e]
  rfl
theorem code_at {K : PySem.W.Frag} {p : He.Defn} {x q : Str} {st : Stmt} {fd : FuncData} (F : Fun K x q st (He.fAd K p) fd) : fd.code = .ref (He.cT K p).1 := by
  obtain ⟨oc, od, kV, doc, pm, an, cdv, ct, osl, rfl, lk, hc⟩ := F.ex
  obtain ⟨c, rfl⟩ := He.codeIn_ref hc
  have e : He.codeOf K p = c := He.codeOf_eq lk rfl
  show Value.ref c = .ref (He.codeOf K p)
  rw [e]
end FL
namespace FL
open PySem PySem.Spec PyProof.Rows L2
section
variable {X : Cx} {pins : List (Addr × Obj)} {σ : L2.St} {H : Hp} {s : Shared} {k : Nat} {f : Addr} {fd : FuncData} {ps : List Str} {sp : Sp} {Q : VK} {E : XK}
theorem run_at1 {us ws : List Value} {ks : List Str} {bs : List Value} {vs : List V} {E' : Value → Shared → Prop} (F : FnG X.prog X.w X.K X.mg X.base CX0 k f fd ps sp) (hr : Room (k + 1) X.A) (hG : X.A.guards = some [])
    (I : Inv X pins σ H s) (hb : BindsTo s fd ⟨us, ks.zip ws⟩ (ps.zip bs)) (r : Vals vs bs) (h : sp vs H Q E) :
    wpAny (model X.prog X.w) X.A.in1 (call (.ref f) us (ks.zip ws)) (EP X pins σ Q) E' s := by
  refine wpAny_call (codeAny_mono (F.goes X.A.in1 X.stack s H ⟨us, ks.zip ws⟩ bs vs Q E hr.in1 hG I.env0.in1 hb r h) ?_)
  rintro (er | fl) s2 z
  · exact False.elim z
  · cases fl with
    | ret u => exact I.after z
    | _ => exact False.elim z
theorem run_at0 {us ws : List Value} {ks : List Str} {bs : List Value} {vs : List V} {E' : Value → Shared → Prop} (F : FnG X.prog X.w X.K X.mg X.base CX0 k f fd ps sp) (hr : Room k X.A) (hG : X.A.guards = some [])
    (I : Inv X pins σ H s) (hb : BindsTo s fd ⟨us, ks.zip ws⟩ (ps.zip bs)) (r : Vals vs bs) (h : sp vs H Q E) :
    wpAny (model X.prog X.w) X.A (call (.ref f) us (ks.zip ws)) (EP X pins σ Q) E' s := by
  refine wpAny_call (codeAny_mono (F.goes X.A X.stack s H ⟨us, ks.zip ws⟩ bs vs Q E hr hG I.env0 hb r h) ?_)
  rintro (er | fl) s2 z
  · exact False.elim z
  · cases fl with
    | ret u => exact I.after z
    | _ => exact False.elim z
/-! repr of an instance by its class's own text -/
theorem call_reprI {C : Addr} (F : FnG X.prog X.w X.K X.mg X.base CX0 k f fd ["self"] sp) (hb : Binds X.K fd ["self"] []) (hr : Room (k + 1) X.A) (hG : X.A.guards = some [])
    (hs : PySem.W.findIn X.K (.ref C) "__repr__" = some (some (.ref f))) (hf : PySem.W.isFn X.K (.ref f) = true) :
    CallR X (.builtin "repr") (fun xs H Q => ∃ a dx fs, xs = [.ref a] ∧ H a = some (.ins C dx fs) ∧ sp [.ref a] H (fun v H' => ∃ z, v = .str z ∧ Q (.str z) H') E) := by
  intro pins s σ H xs us Q I r h
  obtain ⟨a, dx, fs, rfl, ha, q⟩ := h
  cases r with
  | cons r1 r2 =>
    cases r2
    cases r1
    obtain ⟨mA, O, _⟩ := ins_get I.hok ha
    obtain ⟨od, J, _⟩ := O.look
    obtain ⟨m, fr⟩ := I.fr
    refine PySem.W.repr_K (h₀ := X.base) hr.in1.units0 fr I.ok.mod.kin J hs hf ?_
    refine wpAny_mono (run_at1 (ws := []) (ks := []) (E' := X.xe) (bs := [.ref a]) F hr hG I (vs := [.ref a]) (hb s [.ref a] I.kIn rfl) (.cons rfl .nil) q) ?_ fun _ _ e => e
    rintro u s2 ⟨v, H2, I2, rv, z, rfl, q2⟩
    obtain ⟨t, rfl⟩ := rv
    exact ⟨.str z, H2, I2, ⟨t, rfl⟩, q2⟩
/-! {e!r} of a list of data -/
def tFmtL (K : PySem.W.Frag) (te : TE) : TE := fun σ H Q => te σ H fun x H1 => ∃ a xs d, x = .ref a ∧ SqL K H1 a xs ∧ Dp K H1 x d ∧ d.hasDict = false ∧ NiceD d ∧ Q (.str d.shown) H1
theorem pe_fmtL {e : Expr} {te : TE} {pos : Pos} (hG : X.A.guards = some []) (hu : X.A.units + 64 < cLine) (he : PE X e te) : PE X (.FormattedValue e 114 none pos) (tFmtL X.K te) := by
  refine ⟨fun pins s σ H Q I h => ?_⟩
  refine wpAny_FormattedValue_repr (thn (he.run pins s σ H _ I h) fun v s1 hv => ?_)
  obtain ⟨x, H1, I1, r1, a, xs, d, rfl, _, hd, nd, ⟨n1, n2, n3⟩, q⟩ := hv
  obtain ⟨as, rd⟩ := Dp.reads I1 d _ v hd r1
  cases r1
  refine pyReprObj_of_reads rd n1 (PyData.noDict_hsm nd) hG (by omega) (fun _ _ e => e) (fun h' u tk kp => ?_) n3
  have I2 : Inv X pins σ H1 { s1 with heap := h', toks := tk } := I1.kept kp
  exact wpAny_formatField_str ⟨.str d.shown, H1, I2, ⟨u, rfl⟩, q⟩ ⟨.str d.shown, H1, I2.tok _, ⟨_, rfl⟩, q⟩ n3
end
end FL
namespace FL
open PySem PySem.Spec PyProof.Rows L2
section
variable {M : Model} {A : Around} {E : Value → Shared → Prop} {s : Shared} {K : PySem.W.Frag} {x C f : Addr} {ox : Obj} {od : Option Obj}
theorem rc_own {a : Value} {T ida : String} {Q : Value → Shared → Prop} (ha : s.TypeIs a T) (X : K.In s.heap) (I : PySem.W.InstAt s.heap x ox C od) (hsub : PySem.W.mroIn K C (.type T) = some false)
    (h1 : Slot T (cmpInfo .Eq).2.1 ida) (hc1 : ∀ Q' : Value → Shared → Prop, Q' .notImplemented s → wpAny M A (call (.builtin ida) [a, .ref x]) Q' E s)
    (hs : PySem.W.findIn K (.ref C) "__eq__" = some (some (.ref f))) (hf : PySem.W.isFn K (.ref f) = true) (hu : A.units < cLine)
    (h : wpAny M A (call (.ref f) [.ref x, a]) (PySem.W.CmpBack Q) E s) : wpAny M A (richCompare .Eq a (.ref x)) Q E s := by
  have hne : (Value.type T != Value.ref C) = true := by rfl
  have two : wpAny M A (tryCompare (.ref x) (cmpInfo .Eq).2.2 a) (fun r s' => ∃ v, r = some v ∧ Q v s') E s := by
    unfold tryCompare
    refine wpAny_bind (PySem.W.ifBound_K X I hs hf (wpAny_mono h (fun v s' hv => ?_) fun _ _ e => e))
    cases v <;> first | exact hv.elim | exact wpAny_pure ⟨_, rfl, hv⟩
  rcases hi : cmpInfo CmpOp.Eq with ⟨sym, g, r⟩
  rw [hi] at h1 two
  simp only [richCompare, hi, ha.oneThing_none]
  try with_reducible refine wpAny_holding ?_
  refine wpAny_bind (wpAny_cRoomFor hu ?_)
  refine wpAny_bind (wpAny_typeOf ha (wpAny_bind (I.type.here ?_)))
  simp only [hne, if_true]
  refine wpAny_bind ((PySem.W.looks_mroIn X hsub).here ?_)
  simp only [Bool.false_eq_true, if_false, Bool.not_false, if_true]
  refine wpAny_bind (m := tryCompare a _ (.ref x)) (wpAny_tryCompare_declines ha h1 (hc1 _ ⟨rfl, ?_⟩))
  refine wpAny_bind (wpAny_mono two (fun r s' z => ?_) fun _ _ e => e)
  obtain ⟨v, rfl, hq⟩ := z
  exact wpAny_pure hq
end
section
variable {K : PySem.W.Frag} {x C l : Addr} {ox : Obj} {od : Option Obj}
theorem int_no (b : Int) (u : Tok) (c : Value) (dd : Option Addr) (sl : Array (Option Value)) :
    Meets (Builtin.«int.__eq__» ⟨[.int b u, .ref x], []⟩) (fun _ R s => s.heap.get? x = some { cls := c, dict := dd, data := .plain, slots := sl } ∧ R (.ok (.ret .notImplemented)) s) :=
  .of_wp fun prog w A R s h => by obtain ⟨hp, g, d, tk, os⟩ := s; obtain ⟨hl, h⟩ := h; wp_walk using wpAny_loadPart' hl, wpAny_load hl; exact ⟨_, rfl, h⟩
theorem bool_no (b : Bool) (c : Value) (dd : Option Addr) (sl : Array (Option Value)) :
    Meets (Builtin.«int.__eq__» ⟨[.bool b, .ref x], []⟩) (fun _ R s => s.heap.get? x = some { cls := c, dict := dd, data := .plain, slots := sl } ∧ R (.ok (.ret .notImplemented)) s) :=
  .of_wp fun prog w A R s h => by obtain ⟨hp, g, d, tk, os⟩ := s; obtain ⟨hl, h⟩ := h; wp_walk using wpAny_loadPart' hl, wpAny_load hl; exact ⟨_, rfl, h⟩
theorem str_no (b : Str) (u : Tok) (c : Value) (dd : Option Addr) (sl : Array (Option Value)) :
    Meets (Builtin.«str.__eq__» ⟨[.str b u, .ref x], []⟩) (fun _ R s => s.heap.get? x = some { cls := c, dict := dd, data := .plain, slots := sl } ∧ R (.ok (.ret .notImplemented)) s) :=
  .of_wp fun prog w A R s h => by obtain ⟨hp, g, d, tk, os⟩ := s; obtain ⟨hl, h⟩ := h; wp_walk using wpAny_loadPart' hl, wpAny_load hl; exact ⟨_, rfl, h⟩
theorem list_no (items : Array Value) (n : Nat) (dd : Option Addr) (sl : Array (Option Value)) (c : Value) (dd' : Option Addr) (sl' : Array (Option Value)) :
    Meets (Builtin.«list.__eq__» ⟨[.ref l, .ref x], []⟩) (fun _ R s => s.heap.get? l = some { cls := .type "list", dict := dd, data := .seq items n, slots := sl } ∧ s.heap.get? x = some { cls := .ref C, dict := dd', data := .plain, slots := sl' }
      ∧ (K.In s.heap ∧ PySem.W.mroIn K C (.type "list") = some false) ∧ R (.ok (.ret .notImplemented)) s) :=
  .of_wp fun prog w A R s h => by
    obtain ⟨hp, g, d, tk, os⟩ := s
    obtain ⟨hl, hx, ⟨X, hm⟩, h⟩ := h
    have L := PySem.W.looks_mroIn (M := model prog w) X hm
    wp_walk using wpAny_loadPart' hl, wpAny_load hl, wpAny_loadPart' hx, wpAny_load hx, L.here
    exact ⟨_, rfl, h⟩
theorem tuple_no (items : Array Value) (n : Nat) (dd : Option Addr) (sl : Array (Option Value)) (c : Value) (dd' : Option Addr) (sl' : Array (Option Value)) :
    Meets (Builtin.«tuple.__eq__» ⟨[.ref l, .ref x], []⟩) (fun _ R s => s.heap.get? l = some { cls := .type "tuple", dict := dd, data := .seq items n, slots := sl } ∧ s.heap.get? x = some { cls := .ref C, dict := dd', data := .plain, slots := sl' }
      ∧ (K.In s.heap ∧ PySem.W.mroIn K C (.type "tuple") = some false) ∧ R (.ok (.ret .notImplemented)) s) :=
  .of_wp fun prog w A R s h => by
    obtain ⟨hp, g, d, tk, os⟩ := s
    obtain ⟨hl, hx, ⟨X, hm⟩, h⟩ := h
    have L := PySem.W.looks_mroIn (M := model prog w) X hm
    wp_walk using wpAny_loadPart' hl, wpAny_load hl, wpAny_loadPart' hx, wpAny_load hx, L.here
    exact ⟨_, rfl, h⟩
theorem dict_no (es : Array DictEntry) (n : Nat) (dd : Option Addr) (sl : Array (Option Value)) (c : Value) (dd' : Option Addr) (sl' : Array (Option Value)) :
    Meets (Builtin.«dict.__eq__» ⟨[.ref l, .ref x], []⟩) (fun _ R s => s.heap.get? l = some { cls := .type "dict", dict := dd, data := .dict es n, slots := sl } ∧ s.heap.get? x = some { cls := .ref C, dict := dd', data := .plain, slots := sl' }
      ∧ (K.In s.heap ∧ PySem.W.mroIn K C (.type "dict") = some false) ∧ R (.ok (.ret .notImplemented)) s) :=
  .of_wp fun prog w A R s h => by
    obtain ⟨hp, g, d, tk, os⟩ := s
    obtain ⟨hl, hx, ⟨X, hm⟩, h⟩ := h
    have L := PySem.W.looks_mroIn (M := model prog w) X hm
    wp_walk using wpAny_loadPart' hl, wpAny_load hl, wpAny_loadPart' hx, wpAny_load hx, L.here
    exact ⟨_, rfl, h⟩
end
end FL
namespace FL
open PySem PySem.Spec PyProof.Rows L2
/-! ### calls with keywords of defs without defaults -/
theorem kbn_of {K : PySem.W.Frag} {x qual : Str} {st : Stmt} {f : Addr} {fd : FuncData} {ps ks : List Str} {n : Nat} {g : List Value → List Value → List Value} {gV : List V → List V → List V} (F : Fun K x qual st f fd)
    (h : ∀ (kV doc pm : Value) (an : Option Addr) (cdv ct : Value) (us ws : List Value), us.length = n → ws.length = ks.length →
      bindArgs (PySem.W.fnOf x qual (defArgs st) (defBody st) (defScope st) .none kV doc pm an cdv ct) ⟨us, ks.zip ws⟩ = pure (ps.zip (g us ws)))
    (hr : ∀ {vs : List V} {us : List Value} {zs : List V} {ws : List Value}, Vals vs us → Vals zs ws → Vals (gV vs zs) (g us ws)) : KBn K fd ps n ks g gV := by
  obtain ⟨oc, od, kV, doc, pm, an, cdv, ct, osl, rfl, lk, hcd⟩ := F.ex
  exact ⟨fun s us ws _ l1 l2 => .of_eq (h kV doc pm an cdv ct us ws l1 l2), hr⟩
/-- one value ahead, two keywords the other way round -/
def swp {α : Type} : List α → List α → List α
  | [s], [r, z] => [s, z, r]
  | us, _ => us
theorem swp_rel {vs : List V} {us : List Value} {zs : List V} {ws : List Value} (a : Vals vs us) (b : Vals zs ws) : Vals (swp vs zs) (swp us ws) := by
  cases a with
  | nil => cases b <;> exact .nil
  | cons a1 a2 =>
    cases a2 with
    | nil =>
      cases b with
      | nil => exact .cons a1 .nil
      | cons b1 b2 =>
        cases b2 with
        | nil => exact .cons a1 .nil
        | cons b2 b3 =>
          cases b3 with
          | nil => exact .cons a1 (.cons b2 (.cons b1 .nil))
          | cons _ _ => exact .cons a1 .nil
    | cons a2 a3 => cases b <;> exact .cons a1 (.cons a2 a3)
/-! ### an instance called by a keyword -/
theorem callO_kw {M : Model} {A : Around} {E : Value → Shared → Prop} {s : Shared} {a : Addr} {pos : Pos} {Q : Value → Shared → Prop} {args : List (Bool × Sem Value)} {kws : List (Option Str × Sem Value)}
    (hp : (args.any (·.1) || kws.any (·.1.isNone)) = false)
    (h : wpAny M A (evalArgs (.ref a) true args kws) (fun z s1 => (∃ C ox od, PySem.W.InstAt s1.heap a ox C od ∧ ox.data = .plain) ∧ wpAny M A (call (.ref a) z.pos z.kw) Q E s1) E s) :
    wpAny M A (callWith pos (.ref a) [] args kws) Q E s := by
  unfold callWith
  refine wpAny_bind (wpAny_holding (wpAny_mono h (fun z s1 hz => ?_) fun _ _ e => e))
  obtain ⟨⟨C, ox, od, J, hd⟩, hz⟩ := hz
  refine wpAny_bind (wpAny_standAt ?_)
  have L := PySem.W.kco_keeper (M := M) J hd
  simp only [hp]
  refine wpAny_bind (L.here ?_)
  exact wpAny_bind (wpAny_operateT (wpAny_mono hz (fun r s2 hr => wpAny_bind (wpAny_holding (wpAny_point (wpAny_pure hr)))) fun _ _ e => e))
section
variable {X : Cx} {pins : List (Addr × Obj)} {σ : L2.St} {H : Hp} {s : Shared} {k : Nat} {f C g : Addr} {fd : FuncData} {ps ks : List Str} {sp : Sp} {Q : VK} {E : XK}
/-- o(k = v), o an instance of C -/
def tCallOK (C : Addr) (m : Nat) (sp : Sp) (gV : List V → List V → List V) (E : XK) (tf : TE) (tk : TA) : TE := fun σ H Q => tf σ H fun y H1 => ∃ a, y = V.ref a ∧
  tk σ H1 fun zs H2 => zs.length = m ∧ (∃ dx fs, H2 a = some (.ins C dx fs)) ∧ sp (gV [.ref a] zs) H2 Q E
theorem pe_callOK {fe : Expr} {kws : List Keyword} {pos : Pos} {tf : TE} {tk : TA} {gg : List Value → List Value → List Value} {gV : List V → List V → List V} (hf : PE X fe tf) (c : StX.CallO X.K C g)
    (F : FnOk X.prog X.w X.K X.mg X.base CX0 k g fd ps sp) (hb : KBn X.K fd ps 1 ks gg gV) (hr : Room k X.A) (hkw : PK X kws tk)
    (hall : (backToKw pos (keywordEach kws X.env)).all (·.1.isSome) = true := by rfl) (hks : (backToKw pos (keywordEach kws X.env)).filterMap (·.1) = ks := by rfl)
    (ht : eval (.Call fe [] kws pos) X.env = (do callWith pos (← eval fe X.env) [] (backTo pos (starEach [] X.env)) (backToKw pos (keywordEach kws X.env))) := by rfl)
    (hpl : ((backTo pos (starEach [] X.env)).any (·.1) || (backToKw pos (keywordEach kws X.env)).any (·.1.isNone)) = false := by rfl) :
    PE X (.Call fe [] kws pos) (tCallOK C ks.length sp gV E tf tk) := by
  refine ⟨fun pins s σ H Q I h => ?_⟩
  rw [ht]
  refine wpAny_bind (thn (hf.run pins s σ H _ I h) fun u s1 hu => ?_)
  obtain ⟨y, H1, I1, ry, a, ey, q⟩ := hu
  subst ey
  obtain rfl : u = Value.ref a := ry
  refine callO_kw hpl (evalArgs_kw2_nil hall (thn (hkw.run pos pins s1 σ H1 _ I1 q) fun ws s2 hw => ?_))
  obtain ⟨zs, H2, I2, rz, l2, ⟨dx, fs, ha⟩, q2⟩ := hw
  rw [hks]
  obtain ⟨ox, od, J, hd⟩ := StX.insC_at I2 (.inr ⟨dx, fs, ha⟩)
  refine ⟨⟨C, ox, od, J, hd⟩, ?_⟩
  have rs : Vals [V.ref a] [Value.ref a] := .cons rfl .nil
  refine wpAny_call (PySem.W.kco_code I2.kIn J hd c.at_ c.fn c.fi ?_)
  refine codeAny_mono (F.run X.A X.stack s2 H2 ⟨[.ref a], ks.zip ws⟩ (gg [.ref a] ws) (gV [.ref a] zs) Q E hr I2.env0 (hb.to s2 [.ref a] ws I2.kIn rfl (rz.length.symm.trans l2)) (hb.rel rs rz) q2) fun r s' hq => ?_
  cases r with
  | error e => exact False.elim hq
  | ok fl =>
    cases fl with
    | ret u => exact I2.after hq
    | next => exact False.elim hq
    | brk => exact False.elim hq
    | cont => exact False.elim hq
/-! ### == and != by an own == -/
/-- a value of another kind, or an instance of C -/
def Sec (C : Addr) (H : Hp) (y : V) : Prop := (∃ n, Any H y n) ∨ ∃ b dx fs, y = .ref b ∧ H b = some (.ins C dx fs)
structure EqT (K : PySem.W.Frag) (C f : Addr) (fd : FuncData) : Prop where
  cl : Cls K C
  at_ : PySem.W.findIn K (.ref C) "__eq__" = some (some (.ref f))
  fn : PySem.W.isFn K (.ref f) = true
  bd : Binds K fd ["self", "other"] []
  kin : ∀ n ∈ kinds, PySem.W.mroIn K C (.type n) = some false
  ne : PySem.W.findIn K (.ref C) "__ne__" = some (some (.builtin "object.__ne__"))
  ob : PySem.W.mroIn K C (.type "object") = some true
theorem not_first {K : PySem.W.Frag} {C : Addr} {n : String} (h : n ∈ kinds) : PySem.W.notFirst K C (.type n) = true := by
  have h' : ((fastBuiltinMro n).map fun l => l.contains (.ref C)) = some false := by
    simp only [kinds, List.mem_cons, List.mem_nil_iff, or_false] at h
    rcases h with rfl | rfl | rfl | rfl | rfl | rfl | rfl <;> kernel_rfl
  show (_ || (((fastBuiltinMro n).map fun l => l.contains (.ref C)) == some false)) = true
  rw [h']
  simp
theorem sec_type {u : Value} {y : V} (I : Inv X pins σ H s) (r : RelV y u) (h : Sec C H y) : ∃ tb, PySem.W.Looks (model X.prog X.w) s.heap (typeOf u) tb ∧ PySem.W.notFirst X.K C tb = true := by
  rcases h with ⟨n, an⟩ | ⟨b, dx, fs, rfl, hb⟩
  · obtain ⟨P, Z, p, _⟩ := kit_of I r an.tyx
    exact ⟨_, Z.ty _ _ I.kIn p, not_first an.kind⟩
  · obtain rfl : u = Value.ref b := r
    obtain ⟨mB, J, _⟩ := ins_get I.hok hb
    obtain ⟨od, J, _⟩ := J.look
    exact ⟨_, J.type, by simp [PySem.W.notFirst]⟩
def rEqO (C : Addr) (sp : Sp) : R2 := fun x y H Q => ∃ a dx fs, x = .ref a ∧ H a = some (.ins C dx fs) ∧ Sec C H y ∧ sp [x, y] H (fun v H' => ∃ b, v = .bl b ∧ Q (.bl b) H') E0
theorem op_eqO (T : EqT X.K C f fd) (Fk : FnOk X.prog X.w X.K X.mg X.base CX0 k f fd ["self", "other"] sp) (hr : Room k X.A) : OpR X (compareOp .Eq) (rEqO C sp) := by
  intro pins s σ H x y v u Q I rx ry h
  obtain ⟨a, dx, fs, rfl, ha, sc, q⟩ := h
  obtain rfl : v = Value.ref a := rx
  obtain ⟨tb, lb, nf⟩ := sec_type I ry sc
  obtain ⟨mA, J, _⟩ := ins_get I.hok ha
  obtain ⟨od, J, _⟩ := J.look
  obtain ⟨m, hF⟩ := I.fr
  show wpAny _ _ (richCompare .Eq (.ref a) u) _ _ _
  refine PySem.W.cmp_K (op := .Eq) hr.units0 hF I.ok.mod.kin J lb nf T.at_ T.fn ?_
  have rr : Vals [V.ref a, y] [Value.ref a, u] := .cons rfl (.cons ry .nil)
  refine wpAny_mono (wpAny_call (run_fnR (Fk.raw T.bd .nil) hr pass0 I rr q)) ?_ fun _ _ e => e
  rintro w s2 ⟨z, H2, I2, rz, b, rfl, qb⟩
  obtain rfl : w = Value.bool b := rz
  exact ⟨.bl b, H2, I2, rfl, qb⟩
/-- != of an instance and another value -/
def rNeO (C : Addr) (sp : Sp) : R2 := fun x y H Q => ∃ a dx fs, x = .ref a ∧ H a = some (.ins C dx fs) ∧ Sec C H y ∧ sp [x, y] H (fun v H' => ∃ b, v = .bl b ∧ Q (.bl !b) H') E0
theorem slot_obj_ne : Slot "object" "__ne__" "object.__ne__" :=
  Slot.of (T := "object") (name := "__ne__") (owner := "object") (n := "__ne__") (by rw [typeLookup_type, builtinLookup_eq_fast]; kernel_rfl) (by decide +kernel) (by decide +kernel) (by decide +kernel) (.inl (by decide +kernel)) (by rw [isSubtype_type]; kernel_rfl)
theorem op_neO (T : EqT X.K C f fd) (Fk : FnOk X.prog X.w X.K X.mg X.base CX0 k f fd ["self", "other"] sp) (hr : Room (k + 2) X.A) : OpR X (compareOp .NotEq) (rNeO C sp) := by
  intro pins s σ H x y v u Q I rx ry h
  obtain ⟨a, dx, fs, rfl, ha, sc, q⟩ := h
  obtain rfl : v = Value.ref a := rx
  obtain ⟨tb, lb, nf⟩ := sec_type I ry sc
  obtain ⟨mA, J, _⟩ := ins_get I.hok ha
  obtain ⟨od, J, _⟩ := J.look
  show wpAny _ _ (richCompare .NotEq (.ref a) u) _ _ _
  have rr : Vals [V.ref a, y] [Value.ref a, u] := .cons rfl (.cons ry .nil)
  have inner : wpAny (model X.prog X.w) X.A (call (.builtin "object.__ne__") [.ref a, u]) (PySem.W.CmpBack (EP X pins σ Q)) X.xe s := by
    have sub : PySem.W.Looks (model X.prog X.w) s.heap (isInstance (.ref a) (.type "object")) true := J.type.andThen (PySem.W.looks_mroIn I.kIn T.ob)
    refine wpAny_call (codeAny_call_builtin slot_obj_ne.plain PySem.F.cmpEntry_ne (PySem.W.check_slot PySem.F.cmpKind_ne PySem.F.cmpSplit_ne sub (PySem.F.cmpArgs_ne _ _) ?_))
    unfold Builtin.«object.__ne__»
    repeat (first | with_reducible refine wpAny_cRoomFor hr.in1.units0 ?_ | with_reducible refine PySem.W.ifBound_K I.kIn J T.at_ T.fn ?_ | wp_step)
    have c1 : codeAny (model X.prog X.w) X.A.in1 (.call (.ref f) ⟨[.ref a, u], []⟩) (fun r s' => ∃ w, r = .ok (.ret w) ∧ EP X pins σ (fun v H' => ∃ b, v = V.bl b ∧ Q (V.bl !b) H') w s') s := by
      have hb := T.bd s [.ref a, u] I.kIn rfl
      refine codeAny_mono (Fk.run X.A.in1 X.stack s H ⟨[.ref a, u], []⟩ [.ref a, u] [.ref a, y] _ E0 (hr.mono (Nat.le_succ _)).in1 I.env0.in1 hb rr q) ?_
      rintro (er | fl) s2 z
      · exact False.elim z
      · cases fl with
        | ret w => exact ⟨w, rfl, I.after z⟩
        | _ => exact False.elim z
    refine codeAny_mono c1 ?_
    rintro r s2 ⟨w, rfl, z, H2, I2, rz, b, rfl, qb⟩
    obtain rfl : w = Value.bool b := rz
    refine wpAny_bind (wpAny_truthy_bool (wpAny_pure ?_))
    exact ⟨.bl !b, H2, I2, rfl, qb⟩
  have X0 := I.kIn
  have one : wpAny (model X.prog X.w) X.A (tryCompare (.ref a) "__ne__" u) (fun r s' => ∃ v, r = some v ∧ EP X pins σ Q v s') X.xe s := by
    unfold tryCompare callSpecialIfBound? bindSpecialIfBound?
    refine wpAny_bind (wpAny_holding (wpAny_bind (wpAny_bind (wpAny_bind (J.type.here ((PySem.W.looks_findIn X0 T.ne).here ?_))))))
    have fin : wpAny (model X.prog X.w) X.A (call (.builtin "object.__ne__") ([.ref a] ++ [u]) >>= fun v => pure (some v))
        (fun r s' => wpAny (model X.prog X.w) X.A (match r with | some .notImplemented | none => pure none | some v => pure (some v)) (fun r s' => ∃ v, r = some v ∧ EP X pins σ Q v s') X.xe s') X.xe s := by
      refine wpAny_bind (wpAny_mono inner (fun v s2 hv => wpAny_pure ?_) fun _ _ e => e)
      cases v <;> first | exact hv.elim | exact wpAny_pure ⟨_, rfl, hv⟩
    simp only [slot_obj_ne.bind]
    refine wpAny_bind (wpAny_askSetting (wpAny_ite ?_))
    split
    · exact wpAny_bind (wpAny_pure (wpAny_pure fin))
    · exact wpAny_tryCatch (wpAny_bind (wpAny_pure (wpAny_pure fin)))
  unfold richCompare
  simp only [oneThing_ref]
  refine wpAny_holding (wpAny_bind (wpAny_cRoomFor hr.units0 ?_))
  refine wpAny_bind (J.type.here (wpAny_bind (lb.here ?_)))
  split
  · rename_i qne
    have e : PySem.W.subIn X.K tb (.ref C) = some false := by
      rcases Bool.or_eq_true_iff.mp nf with e | e
      · rw [beq_iff_eq.mp e] at qne
        simp at qne
      · exact beq_iff_eq.mp e
    refine wpAny_bind ((PySem.W.looks_subIn X0 e).here ?_)
    simp only [Bool.false_eq_true, if_false]
    refine wpAny_bind (wpAny_mono one (fun r s2 hz => ?_) fun _ _ e => e)
    obtain ⟨v, rfl, hv⟩ := hz
    exact wpAny_pure hv
  · refine wpAny_bind (wpAny_pure ?_)
    simp only [Bool.false_eq_true, if_false]
    refine wpAny_bind (wpAny_mono one (fun r s2 hz => ?_) fun _ _ e => e)
    obtain ⟨v, rfl, hv⟩ := hz
    exact wpAny_pure hv
end
end FL
namespace FL
open PySem PySem.Spec PyProof.Rows L2
section
variable {x C : Addr}
theorem none_no (c : Value) (dd : Option Addr) (sl : Array (Option Value)) :
    Meets (Builtin.«NoneType.__eq__» ⟨[.none, .ref x], []⟩) (fun _ R s => s.heap.get? x = some { cls := c, dict := dd, data := .plain, slots := sl } ∧ R (.ok (.ret .notImplemented)) s) :=
  .of_wp fun prog w A R s h => by obtain ⟨hp, g, d, tk, os⟩ := s; obtain ⟨hl, h⟩ := h; wp_walk using wpAny_loadPart' hl, wpAny_load hl; exact ⟨_, rfl, h⟩
end
section
variable {X : Cx} {pins : List (Addr × Obj)} {σ : L2.St} {H : Hp} {s : Shared} {k : Nat} {f C : Addr} {fd : FuncData} {sp : Sp}
/-- a value of another kind == an instance -/
def rEqR (C : Addr) (sp : Sp) : R2 := fun x y H Q => ∃ a dx fs n, y = .ref a ∧ H a = some (.ins C dx fs) ∧ Any H x n ∧ sp [y, x] H (fun v H' => ∃ b, v = .bl b ∧ Q (.bl b) H') E0
theorem op_eqR (T : EqT X.K C f fd) (Fk : FnOk X.prog X.w X.K X.mg X.base CX0 k f fd ["self", "other"] sp) (hr : Room k X.A) : OpR X (compareOp .Eq) (rEqR C sp) := by
  intro pins s σ H x y v u Q I rx ry h
  obtain ⟨a, dx, fs, n, rfl, ha, an, q⟩ := h
  obtain rfl : u = Value.ref a := ry
  obtain ⟨mA, O, _⟩ := ins_get I.hok ha
  obtain ⟨od, J, _⟩ := O.look
  have hx : s.heap.get? a = some (PySem.W.instObj C dx) := J.at_
  show wpAny _ _ (richCompare .Eq v (.ref a)) _ _ _
  have rr : Vals [V.ref a, x] [Value.ref a, v] := .cons rfl (.cons rx .nil)
  have hu := hr.units0
  have km := T.kin n an.kind
  have own : wpAny (model X.prog X.w) X.A (call (.ref f) [.ref a, v]) (PySem.W.CmpBack (EP X pins σ Q)) X.xe s := by
    refine wpAny_mono (wpAny_call (run_fnR (Fk.raw T.bd .nil) hr pass0 I rr q)) ?_ fun _ _ e => e
    rintro w s2 ⟨z, H2, I2, rz, b, rfl, qb⟩
    obtain rfl : w = Value.bool b := rz
    exact ⟨.bl b, H2, I2, rfl, qb⟩
  cases an with
  | non =>
    obtain rfl : v = Value.none := rx
    exact rc_own (T := "NoneType") rfl I.kIn J km PySem.F.slot_NoneType_eq (fun Q' hq => call_meets PySem.F.slot_NoneType_eq rfl PySem.F.entry_NoneType_eq (PySem.F.args_NoneType_eq_2 _ _) (none_no _ _ _) ⟨hx, hq⟩) T.at_ T.fn hu own
  | bl b =>
    obtain rfl : v = Value.bool b := rx
    exact rc_own (T := "bool") rfl I.kIn J km PySem.F.slot_bool_eq (fun Q' hq => call_meets PySem.F.slot_bool_eq rfl PySem.F.entry_int_eq (PySem.F.args_int_eq_2 _ _) (bool_no _ _ _ _) ⟨hx, hq⟩) T.at_ T.fn hu own
  | int i =>
    obtain ⟨t, rfl⟩ := rx
    exact rc_own (T := "int") (typeIs_int s i t) I.kIn J km PySem.F.slot_int_eq (fun Q' hq => call_meets PySem.F.slot_int_eq (typeIs_int s i t) PySem.F.entry_int_eq (PySem.F.args_int_eq_2 _ _) (int_no _ _ _ _ _) ⟨hx, hq⟩) T.at_ T.fn hu own
  | str z =>
    obtain ⟨t, rfl⟩ := rx
    exact rc_own (T := "str") (typeIs_str s z t) I.kIn J km PySem.F.slot_str_eq (fun Q' hq => call_meets PySem.F.slot_str_eq (typeIs_str s z t) PySem.F.entry_str_eq (PySem.F.args_str_eq_2 _ _) (str_no _ _ _ _ _) ⟨hx, hq⟩) T.at_ T.fn hu own
  | @lst l xs e =>
    obtain rfl : v = Value.ref l := rx
    obtain ⟨_, its, m, _, hl⟩ := I.hok l _ e
    have ty : s.TypeIs (.ref l) "list" := ⟨_, hl, rfl⟩
    exact rc_own (T := "list") ty I.kIn J km PySem.F.slot_list_eq (fun Q' hq => call_meets PySem.F.slot_list_eq ty PySem.F.entry_list_eq (PySem.F.args_list_eq_2 _ _) (list_no _ _ _ _ .none _ _) ⟨hl, hx, ⟨I.kIn, km⟩, hq⟩) T.at_ T.fn hu own
  | @tup l xs e =>
    obtain rfl : v = Value.ref l := rx
    obtain ⟨_, its, _, o, hl, hc, m, hd⟩ := I.hok l _ e
    obtain ⟨cls, dd, data, sl⟩ := o
    simp only at hc hd
    subst hc hd
    have ty : s.TypeIs (.ref l) "tuple" := ⟨_, hl, rfl⟩
    exact rc_own (T := "tuple") ty I.kIn J km PySem.F.slot_tuple_eq (fun Q' hq => call_meets PySem.F.slot_tuple_eq ty PySem.F.entry_tuple_eq (PySem.F.args_tuple_eq_2 _ _) (tuple_no _ _ _ _ .none _ _) ⟨hl, hx, ⟨I.kIn, km⟩, hq⟩) T.at_ T.fn hu own
  | @dct l kvs e =>
    obtain rfl : v = Value.ref l := rx
    obtain ⟨_, _, vs, _, o, es, ep, hl, he, hd, _⟩ := I.hok l _ e
    obtain ⟨cls, dd, data, sl⟩ := o
    obtain ⟨hc, _⟩ := he
    simp only at hc hd
    subst hc hd
    have ty : s.TypeIs (.ref l) "dict" := ⟨_, hl, rfl⟩
    exact rc_own (T := "dict") ty I.kIn J km PySem.F.slot_dict_eq (fun Q' hq => call_meets PySem.F.slot_dict_eq ty PySem.F.entry_dict_eq (PySem.F.args_dict_eq_2 _ _) (dict_no _ _ _ _ .none _ _) ⟨hl, hx, ⟨I.kIn, km⟩, hq⟩) T.at_ T.fn hu own
end
end FL
namespace FL
open PySem PySem.Spec PyProof.Rows L2
/-! ### what a relay's methods promise -/
structure IsT (K : PySem.W.Frag) (C : Addr) : Prop where
  cl : Cls K C
  ha : PySem.W.findIn K (.ref C) "__class__" = some (some (.builtin "object.__class__"))
  hm : PySem.W.mroIn K C (.type "object") = some true
  self : PySem.W.kitOne K (.ref C) (.ref C) = some true
  oth : ∀ n ∈ kinds, PySem.W.kitOne K (.type n) (.ref C) = some false
theorem IsT.ins {K : PySem.W.Frag} {C a dx : Addr} {H : Hp} {fs : List (Str × V)} (T : IsT K C) (e : H a = some (.ins C dx fs)) : TyX K H (.ref a) (.ref C) :=
  .base (.ins e T.cl T.ha (by kernel_rfl) (by kernel_rfl) T.hm)
/-- rules that are plain and not too long -/
def RP (b : Nat) (rs : List Rule) : Prop := ∀ r ∈ rs, Plain r.old ∧ Plain r.new ∧ r.old.length ≤ b ∧ r.new.length ≤ b
def rsEq (a b : List Rule) : Bool := PyData.eqvAll (a.map ruleD) (b.map ruleD)
theorem rsEq_iff {a b : List Rule} : rsEq a b = true ↔ a = b := eqv_rules a b
theorem rsEq_self (a : List Rule) : rsEq a a = true := rsEq_iff.mpr rfl
theorem rsEq_comm (a b : List Rule) : rsEq a b = rsEq b a := by
  cases h : rsEq a b with
  | true =>
    rw [rsEq_iff] at h
    rw [h, rsEq_self]
  | false =>
    cases h2 : rsEq b a with
    | false => rfl
    | true =>
      rw [rsEq_iff] at h2
      rw [h2, rsEq_self] at h
      cases h
def spGet (C : Addr) : Sp := fun vs H Q _ => ∃ (p : Addr) (z : Str) (rs : List Rule), vs = [.ref p] ∧ RelayAt C H p z rs ∧ Q (.str z) H
def spRules (C : Addr) : Sp := fun vs H Q _ => ∃ (p : Addr) (z : Str) (rs : List Rule), vs = [.ref p] ∧ RelayAt C H p z rs ∧
  ∀ (D : Addr) (xs : List V) (H' : Hp), H D = none → H' D = some (.lst xs) → RulesAt H' xs rs → Same H H' → Q (.ref D) H'
def spCall (C : Addr) : Sp := fun vs H Q _ => ∃ (p : Addr) (z : Str) (rs : List Rule) (y : Str), vs = [.ref p, .str y] ∧ RelayAt C H p z rs ∧ Over z y ∧ y.length ≤ 100000 ∧
  (∀ r ∈ rs, r.old.length ≤ 40 ∧ r.new.length ≤ 1000) ∧ ∀ H', Same H H' → Q (.str (turn rs y)) H'
def spEqR (C : Addr) : Sp := fun vs H Q _ => ∃ (p : Addr) (z : Str) (rs : List Rule) (b : Nat) (v : V), vs = [.ref p, v] ∧ RelayAt C H p z rs ∧ RP b rs ∧
  ((∃ n, Any H v n ∧ Q (.bl false) H) ∨ ∃ (q : Addr) (rs' : List Rule), v = .ref q ∧ RelayAt C H q z rs' ∧ RP b rs' ∧ Q (.bl (rsEq rs rs')) H)
def reprR (z : Str) (rs : List Rule) : Str := (((((Str.empty ++ Str.ofString "Relay(") ++ reprText z) ++ Str.ofString ", ") ++ (PyData.list (rs.map ruleD)).shown) ++ Str.ofString ")")
def spReprR (C : Addr) : Sp := fun vs H Q _ => ∃ (p : Addr) (z : Str) (rs : List Rule), vs = [.ref p] ∧ RelayAt C H p z rs ∧ Abc z ∧ RP 40 rs ∧ rs.length ≤ 400 ∧ Q (.str (reprR z rs)) H
theorem repr_abc {z : Str} (h : Abc z) : (reprText z).length ≤ 42 := by
  have h1 := (Sm.str (h.plain fun c hc => hc)).len
  have h2 : (reprText z).length ≤ 10 * z.length + 2 := h1
  have := h.hi
  omega
theorem RP.sm {b : Nat} {rs : List Rule} (h : RP b rs) : Sm ((20 * b + 77) * rs.length + 2) (.list (rs.map ruleD)) := Sm.rules h
theorem RP.sm40 {rs : List Rule} (h : RP 40 rs) (l : rs.length ≤ 400) : Sm 400000 (.list (rs.map ruleD)) := (RP.sm h).mono (by omega)
end FL
namespace FL
open PySem PySem.Spec PyProof.Rows L2
/-! ### a def by its name, all that a caller needs of it -/
structure Ca (P : Program) (w : World) (K : PySem.W.Frag) (mg : Str → Option Value) (base : Heap) (x : Str) (k : Nat) (ps : List Str) (sp : Sp) : Prop where
  ex : ∃ f fd, FnOk P w K mg base CX0 k f fd ps sp ∧ Binds K fd ps [] ∧ PySem.W.keepIn K (.ref f) = true ∧ mg x = some (.ref f)
structure CaG (P : Program) (w : World) (K : PySem.W.Frag) (mg : Str → Option Value) (base : Heap) (x : Str) (k : Nat) (ps : List Str) (sp : Sp) : Prop where
  ex : ∃ f fd, FnG P w K mg base CX0 k f fd ps sp ∧ Binds K fd ps [] ∧ PySem.W.keepIn K (.ref f) = true ∧ mg x = some (.ref f)
section
variable {X : Cx} {x : Str} {k : Nat} {ps : List Str} {sp : Sp} {p pos : Pos} {e : Expr} {es : List Expr} {t : TA}
theorem pe_ca (c : Ca X.prog X.w X.K X.mg X.base x k ps sp) (hr : Room k X.A) (hg : Gl X x) (ha : PA X (e :: es) t)
    (hdb : (x == ("__debug__" : Str)) = false := by decide) (he : starEach (e :: es) X.env = (false, eval e X.env) :: starEach es X.env := by rfl) (hpl : (backTo pos (starEach es X.env)).any (·.1) = false := by rfl) :
    PE X (.Call (.Name x p) (e :: es) [] pos) (tCall sp [] E0 t) := by
  obtain ⟨f, fd, F, b, kp, m⟩ := c.ex
  exact pe_call F hr hg m kp b .nil pass0 ha hdb he hpl
theorem pe_cg (c : CaG X.prog X.w X.K X.mg X.base x k ps sp) (hr : Room k X.A) (hG : X.A.guards = some []) (hg : Gl X x) (ha : PA X (e :: es) t)
    (hdb : (x == ("__debug__" : Str)) = false := by decide) (he : starEach (e :: es) X.env = (false, eval e X.env) :: starEach es X.env := by rfl) (hpl : (backTo pos (starEach es X.env)).any (·.1) = false := by rfl) :
    PE X (.Call (.Name x p) (e :: es) [] pos) (tCall sp [] E0 t) := by
  obtain ⟨f, fd, F, b, kp, m⟩ := c.ex
  exact pg_call F hr hG hg m kp b .nil pass0 ha hdb he hpl
end
/-! ### the class Relay, all that its users need -/
structure RelF (P : Program) (w : World) (K : PySem.W.Frag) (mg : Str → Option Value) (base : Heap) where
  C : Addr
  T : RTxt K mg C
  I : IsT K C
  fi : Addr
  di : FuncData
  mkc : Mk K C fi
  oi : FnOk P w K mg base CX0 5 fi di ["self", "signs", "rules"] (spInit C)
  bi : Binds K di ["self", "signs", "rules"] []
  ki : KBn K di ["self", "signs", "rules"] 1 ["rules", "signs"] swp swp
  fp : Addr
  fg : Addr
  dg : FuncData
  pr : PropOf K C "signs" fp fg
  og : FnOk P w K mg base CX0 1 fg dg ["self"] (spGet C)
  bg : Binds K dg ["self"] []
  fr : Addr
  dr : FuncData
  mr : Meth K C "rules" fr
  or_ : FnOk P w K mg base CX0 1 fr dr ["self"] (spRules C)
  br : Binds K dr ["self"] []
  fc : Addr
  dc : FuncData
  cc : StX.CallO K C fc
  oc : FnOk P w K mg base CX0 3 fc dc ["self", "line"] (spCall C)
  bc : Binds K dc ["self", "line"] []
  kc : KBn K dc ["self", "line"] 1 ["line"] (fun us ws => us ++ ws) (fun vs zs => vs ++ zs)
  fe : Addr
  de : FuncData
  te : EqT K C fe de
  oe : FnOk P w K mg base CX0 1 fe de ["self", "other"] (spEqR C)
  fz : Addr
  dz : FuncData
  zs : PySem.W.findIn K (.ref C) "__repr__" = some (some (.ref fz))
  zf : PySem.W.isFn K (.ref fz) = true
  oz : FnG P w K mg base CX0 1 fz dz ["self"] (spReprR C)
  bz : Binds K dz ["self"] []
theorem make_read {C : Addr} {H : Hp} {Q : VK} {z : Str} {v : V} {rs : List Rule} (hz : Abc z) (ra : RuArg H v rs) (ok : ∀ r ∈ rs, RuleOk z 40 r) (l : rs.length ≤ 400)
    (k : ∀ (x : Addr) (H' : Hp), H x = none → RelayAt C H' x z rs → Same H H' → Q (.ref x) H') :
    ∀ x dx, H x = none → H dx = none → dx ≠ x → spInit C [.ref x, .str z, v] (upd (upd H dx (.own x)) x (.ins C dx [])) (fun v H3 => v = .non ∧ Q (.ref x) H3) E0 := by
  intro x dx hx hd hne
  have s2 : Same H (upd (upd H dx (.own x)) x (.ins C dx [])) := ((Same.refl H).upd hd).upd hx
  refine ⟨x, dx, z, v, rs, rfl, upd_same, hz, ?_, ok, l, fun H' ra' rel _ b => ⟨rfl, k x H' hx rel.at_ fun c o e => b c o (s2 c o e) (ne_of_none e hx)⟩⟩
  obtain ⟨a, xs, t, rfl, ea, hrs⟩ := ra
  exact ⟨a, xs, t, rfl, s2 _ _ ea, Same.rules s2 hrs⟩
theorem RelayAt.ins {C : Addr} {H : Hp} {p : Addr} {z : Str} {rs : List Rule} (h : RelayAt C H p z rs) : ∃ dx fs, H p = some (.ins C dx fs) ∧ ∀ {m : Str}, ¬ m = Str.ofString "_index" → ¬ m = Str.ofString "_rules" → ¬ m = Str.ofString "_signs" → fs.lookup m = none := by
  obtain ⟨dx, ra, ia, xs, h1, _⟩ := h
  exact ⟨dx, _, h1, fun a b c => flds_no z ra ia a b c⟩
theorem rules_no : ¬ (Str.ofString "rules") = Str.ofString "_index" ∧ ¬ (Str.ofString "rules") = Str.ofString "_rules" ∧ ¬ (Str.ofString "rules") = Str.ofString "_signs" := by decide +kernel
end FL
namespace FL
open PySem PySem.Spec PyProof.Rows L2
theorem RelayAt.nn {C : Addr} {H : Hp} {p : Addr} {z : Str} {rs : List Rule} (h : RelayAt C H p z rs) : H p ≠ none := by
  obtain ⟨dx, fs, e, _⟩ := h.ins
  rw [e]
  exact fun q => nomatch q
/-- what the law asks of the rules of a relay -/
structure Deal (K : PySem.W.Frag) (H : Hp) (D : Addr) (z : Str) (rs : List Rule) : Prop where
  az : Abc z
  ex : ∃ xs, H D = some (.lst xs) ∧ RulesAt H xs rs
  ok : ∀ r ∈ rs, RuleOk z 30 r
  le : rs.length ≤ 100
theorem Deal.rp {K : PySem.W.Frag} {H : Hp} {D : Addr} {z : Str} {rs : List Rule} (d : Deal K H D z rs) : RP 40 rs := fun r hr => by
  have o := d.ok r hr
  exact ⟨d.az.plain o.o1, d.az.plain o.n1, Nat.le_trans o.o2 (by decide), Nat.le_trans o.n2 (by decide)⟩
theorem _root_.L2.Same.sqL {K : PySem.W.Frag} {q : Addr} {H H' : Hp} {xs : List V} (b : Same H H') (h : SqL K H q xs) : SqL K H' q xs := by
  rcases h with (h | ⟨o, h⟩) | h
  · exact .inl (.inl (b _ _ h))
  · exact .inl (.inr ⟨o, b _ _ h⟩)
  · exact .inr h
theorem Deal.same {K : PySem.W.Frag} {H H' : Hp} {D : Addr} {z : Str} {rs : List Rule} (d : Deal K H D z rs) (s : Same H H') : Deal K H' D z rs := by
  obtain ⟨xs, h1, h2⟩ := d.ex
  exact ⟨d.az, ⟨xs, s _ _ h1, Same.rules s h2⟩, d.ok, d.le⟩
def spTold (K : PySem.W.Frag) (C : Addr) : Sp := fun vs H Q _ => ∃ (z : Str) (D p : Addr) (rs : List Rule), vs = [.str z, .ref D, .ref p] ∧ Deal K H D z rs ∧ RelayAt C H p z rs ∧
  ∀ H', Same H H' → Q (.bl true) H'
/-- the shown text of rules -/
def shR (rs : List Rule) : Str := (PyData.list (rs.map ruleD)).shown
theorem Deal.sm {K : PySem.W.Frag} {H : Hp} {D : Addr} {z : Str} {rs : List Rule} (d : Deal K H D z rs) : Sm 400000 (.list (rs.map ruleD)) := d.rp.sm40 (Nat.le_trans d.le (by decide))
theorem Deal.sh {K : PySem.W.Frag} {H : Hp} {D : Addr} {z : Str} {rs : List Rule} (d : Deal K H D z rs) : Sh K H (.ref D) (.list (rs.map ruleD)) := by
  obtain ⟨xs, h1, h2⟩ := d.ex
  exact .inl ⟨dp_list (SqL.of h1) h2, d.sm.nd⟩
theorem sh_str {K : PySem.W.Frag} {H : Hp} (y : Str) : Sh K H (.str y) (.str y) := .inl ⟨.str y, rfl⟩
theorem nice_str {y : Str} (h : Plain y) (l : y.length ≤ 1000000) : NiceD (.str y) := (Sm.str h).nice (by
  have sz : sizeLine = 16777216 := rfl
  omega)
end FL
namespace FL
open PySem PySem.Spec PyProof.Rows L2
theorem empty_app (x : Str) : Str.empty ++ x = x := by
  apply Str_ext
  rw [Str.cps_append, Array.toList_append]
  rfl
theorem reprR_eq (z : Str) (rs : List Rule) : reprR z rs = (((Str.ofString "Relay(" ++ (PyData.str z).shown) ++ Str.ofString ", ") ++ (PyData.list (rs.map ruleD)).shown) ++ Str.ofString ")" := by
  show (((((Str.empty ++ Str.ofString "Relay(") ++ (PyData.str z).shown) ++ Str.ofString ", ") ++ (PyData.list (rs.map ruleD)).shown) ++ Str.ofString ")") = _
  rw [empty_app]
end FL
namespace FL
open PySem PySem.Spec PyProof.Rows L2 FL
theorem iteNot {c A B : Prop} [Decidable c] (hn : ¬ c) (h : B) : if decide c = true then A else B := by
  rw [if_neg fun q => hn (of_decide_eq_true q)]
  exact h
theorem iteYes {c A B : Prop} [Decidable c] (hc : c) (h : A) : if decide c = true then A else B := by
  rw [if_pos (decide_eq_true hc)]
  exact h
theorem cutV_take {xs : List V} {i : Nat} : cutV xs none (some ((i : Nat) : Int)) = xs.take i := by
  show (xs.drop (HT.sIx xs.length 0 none)).take (HT.sIx xs.length xs.length (some ((i : Nat) : Int)) - HT.sIx xs.length 0 none) = xs.take i
  rw [HT.sIx_nat]
  show (xs.drop 0).take (min i xs.length - 0) = xs.take i
  rw [List.drop_zero, Nat.sub_zero]
  by_cases h : i ≤ xs.length
  · rw [Nat.min_eq_left h]
  · rw [Nat.min_eq_right (by omega), List.take_length, List.take_of_length_le (by omega)]
theorem flat_strs : ∀ ms : List Str, (ms.map V.str).all flatV = true
  | [] => rfl
  | _ :: ms => flat_strs ms
/-! ### written tuples -/
def SqW (K : PySem.W.Frag) (a : Addr) (xs : List V) : Prop := ∃ (o : Obj) (its : Array Value) (n : Nat), K.lookup a = some o ∧ o.cls = .type "tuple" ∧ o.data = .seq its n ∧ its.size ≤ sizeLine ∧ Vals xs its.toList
theorem SqW.sqT {K : PySem.W.Frag} {H : Hp} {a : Addr} {xs : List V} (h : SqW K a xs) : SqT K H a xs := .inr h
def relsB : List V → List Value → Bool
  | [], [] => true
  | x :: xs, u :: us => He.relB x u && relsB xs us
  | _, _ => false
theorem relsB_ok : ∀ {xs : List V} {us : List Value}, relsB xs us = true → Vals xs us
  | [], [], _ => .nil
  | [], _ :: _, h => nomatch h
  | _ :: _, [], h => nomatch h
  | x :: xs, u :: us, h => by
    obtain ⟨h1, h2⟩ := Bool.and_eq_true_iff.mp (show (He.relB x u && relsB xs us) = true from h)
    exact .cons (He.relB_ok h1) (relsB_ok h2)
def tupB (K : PySem.W.Frag) (a : Addr) (xs : List V) : Bool := match K.lookup a with
  | some o => (match o.cls, o.data with
    | .type c, .seq its _ => decide (c = "tuple") && (decide (its.size ≤ 1000) && relsB xs its.toList)
    | _, _ => false)
  | none => false
theorem tupB_ok {K : PySem.W.Frag} {a : Addr} {xs : List V} (h : tupB K a xs = true) : SqW K a xs := by
  unfold tupB at h
  cases q : K.lookup a with
  | none =>
    rw [q] at h
    cases h
  | some o =>
    rw [q] at h
    obtain ⟨oc, od, dt, sl⟩ := o
    cases oc with
    | type c =>
      cases dt with
      | seq its n =>
        obtain ⟨h1, h2⟩ := Bool.and_eq_true_iff.mp (show (decide (c = "tuple") && (decide (its.size ≤ 1000) && relsB xs its.toList)) = true from h)
        obtain ⟨h2, h3⟩ := Bool.and_eq_true_iff.mp h2
        have e := of_decide_eq_true h1
        subst e
        exact ⟨_, its, n, q, rfl, rfl, Nat.le_trans (of_decide_eq_true h2) (by decide), relsB_ok h3⟩
      | _ => cases h
    | _ => cases dt <;> cases h
/-! ### what the top left, with tables -/
abbrev Tbs : Type := List ((PySem.W.Frag → Addr) × List Str)
def hookD (n : Nat) (ds : List DA) (ex : PySem.W.Frag → Bool) (ts : Tbs) : PySem.W.Hook where
  α := (Bool × List He.FnV) × List (Option (List (Option (Str × Int))))
  obs := fun s => (lookF ds ex (He.frG s.heap.get? (He.asD s.heap.get? n)), ts.map fun t => He.dicW (He.frG s.heap.get? (He.asD s.heap.get? n)) (t.1 (He.frG s.heap.get? (He.asD s.heap.get? n))))
  val := fun w => (dueF ds, ts.map fun t => some (He.keysIn w.params t.2))
  says := fun w h => ∃ K : PySem.W.Frag, K.In h ∧ lookF ds ex K = dueF ds ∧ (ts.map fun t => He.dicW K (t.1 K)) = ts.map fun t => some (He.keysIn w.params t.2)
  of := fun _ _ e => ⟨_, He.frG_in, congrArg Prod.fst e, congrArg Prod.snd e⟩
  keeps := fun _ _ _ ⟨K, i, c⟩ k => ⟨K, PySem.W.Frag.In.keeps i k, c⟩
def obD (n : Nat) (ds : List DA) (ex : PySem.W.Frag → Bool) (ts : Tbs) (g : Addr → Option Obj) : (Bool × List He.FnV) × List (Option (List (Option (Str × Int)))) :=
  (lookF ds ex (He.frG g (He.asD g n)), ts.map fun t => He.dicW (He.frG g (He.asD g n)) (t.1 (He.frG g (He.asD g n))))
theorem obD_eq {n : Nat} {ds : List DA} {ex : PySem.W.Frag → Bool} {ts : Tbs} (s : PySem.W.SharedT) : obD n ds ex ts (HandSHeadRun.getT s) = (hookD n ds ex ts).obs s.abs := by
  have e : HandSHeadRun.getT s = s.abs.heap.get? := funext fun a => HandSHeadRun.getT_eq s a
  rw [e]
  rfl
theorem tabs_at {K : PySem.W.Frag} {w : World} {ts : Tbs} (c : (ts.map fun t => He.dicW K (t.1 K)) = ts.map fun t => some (He.keysIn w.params t.2)) (i : Nat) {t : (PySem.W.Frag → Addr) × List Str} (h : ts[i]? = some t) : ∃ es n, KDict K w (t.1 K) es n := by
  have e2 : (ts.map fun t => He.dicW K (t.1 K))[i]? = (ts.map fun t => some (He.keysIn w.params t.2))[i]? := by rw [c]
  rw [List.getElem?_map, List.getElem?_map, h] at e2
  exact He.dicW_ok (Option.some.inj e2)
/-! ### what a reader is made of -/
theorem nk1 : ¬ (Str.ofString "sight") = Str.ofString "order" := by decide +kernel
theorem nk2 : ¬ (Str.ofString "sight") = Str.ofString "further" := by decide +kernel
theorem nk3 : ¬ (Str.ofString "sight") = Str.ofString "finish" := by decide +kernel
theorem nk4 : ¬ (Str.ofString "order") = Str.ofString "further" := by decide +kernel
theorem nk5 : ¬ (Str.ofString "order") = Str.ofString "finish" := by decide +kernel
theorem nk6 : ¬ (Str.ofString "further") = Str.ofString "finish" := by decide +kernel
structure Cares where
  si : Str
  od : Str
  fu : Str
  fi : Str
def caresL (c : Cares) : List (Str × Str) := [(Str.ofString "sight", c.si), (Str.ofString "order", c.od), (Str.ofString "further", c.fu), (Str.ofString "finish", c.fi)]
def caresK (c : Cares) : List (Key × V) := (caresL c).map fun q => (Sum.inr q.1, V.str q.2)
theorem keyN {a b : Str} (h : ¬ a = b) : ¬ (Sum.inr a : Key) = Sum.inr b := fun e => h (Sum.inr.inj e)
theorem cares_merge (c : Cares) : mergeK [] (caresK c) = caresK c := by
  have a1 : putK ([] : List (Key × V)) (Sum.inr (Str.ofString "sight")) (.str c.si) = [(Sum.inr (Str.ofString "sight"), .str c.si)] := putK_new _ rfl
  have a2 : putK [((Sum.inr (Str.ofString "sight") : Key), V.str c.si)] (Sum.inr (Str.ofString "order")) (.str c.od) = [(Sum.inr (Str.ofString "sight"), .str c.si), (Sum.inr (Str.ofString "order"), .str c.od)] :=
    putK_new _ (by rw [valV_neg (keyN nk1)]; rfl)
  have a3 : putK [((Sum.inr (Str.ofString "sight") : Key), V.str c.si), (Sum.inr (Str.ofString "order"), .str c.od)] (Sum.inr (Str.ofString "further")) (.str c.fu) = [(Sum.inr (Str.ofString "sight"), .str c.si), (Sum.inr (Str.ofString "order"), .str c.od), (Sum.inr (Str.ofString "further"), .str c.fu)] :=
    putK_new _ (by rw [valV_neg (keyN nk2), valV_neg (keyN nk4)]; rfl)
  have a4 : putK [((Sum.inr (Str.ofString "sight") : Key), V.str c.si), (Sum.inr (Str.ofString "order"), .str c.od), (Sum.inr (Str.ofString "further"), .str c.fu)] (Sum.inr (Str.ofString "finish")) (.str c.fi) = caresK c :=
    putK_new _ (by rw [valV_neg (keyN nk3), valV_neg (keyN nk5), valV_neg (keyN nk6)]; rfl)
  unfold mergeK
  unfold caresK caresL at *
  simp only [List.map_cons, List.map_nil, List.foldl_cons, List.foldl_nil]
  rw [a1, a2, a3, a4]
  rfl
def SightOk (z v : Str) : Prop := v = Str.ofString "whole" ∨ v = Str.ofString "start" ∨ (Over z v ∧ v.length = 1)
def CareOk (z nm v : Str) : Prop := (nm = Str.ofString "sight" ∧ SightOk z v) ∨ (nm = Str.ofString "order" ∧ (v = Str.ofString "inner" ∨ v = Str.ofString "outer")) ∨
  (nm = Str.ofString "further" ∧ (v = Str.ofString "refuse" ∨ v = Str.ofString "close")) ∨ (nm = Str.ofString "finish" ∧ (v = Str.ofString "refuse" ∨ v = Str.ofString "close"))
structure CaresOk (z : Str) (c : Cares) : Prop where
  all : ∀ q ∈ caresL c, CareOk z q.1 q.2
theorem CareOk.len {z nm v : Str} (h : CareOk z nm v) : v.length ≤ 10 := by
  have e : (Str.ofString "whole").length = 5 ∧ (Str.ofString "start").length = 5 ∧ (Str.ofString "inner").length = 5 ∧ (Str.ofString "outer").length = 5 ∧ (Str.ofString "refuse").length = 6 ∧ (Str.ofString "close").length = 5 := by decide +kernel
  rcases h with ⟨_, rfl | rfl | ⟨_, h⟩⟩ | ⟨_, rfl | rfl⟩ | ⟨_, rfl | rfl⟩ | ⟨_, rfl | rfl⟩ <;> omega
def rflds (z : Str) (ma : Addr) (tl : Str) (ca : Addr) : List (Str × V) := putF "_cares" (.ref ca) (putF "_tail" (.str tl) (putF "_marks" (.ref ma) (putF "_signs" (.str z) [])))
theorem rn1 : ¬ (Str.ofString "_signs") = Str.ofString "_marks" := by decide +kernel
theorem rn2 : ¬ (Str.ofString "_signs") = Str.ofString "_tail" := by decide +kernel
theorem rn3 : ¬ (Str.ofString "_signs") = Str.ofString "_cares" := by decide +kernel
theorem rn4 : ¬ (Str.ofString "_marks") = Str.ofString "_tail" := by decide +kernel
theorem rn5 : ¬ (Str.ofString "_marks") = Str.ofString "_cares" := by decide +kernel
theorem rn6 : ¬ (Str.ofString "_tail") = Str.ofString "_cares" := by decide +kernel
theorem rflds_signs (z : Str) (ma : Addr) (tl : Str) (ca : Addr) : (rflds z ma tl ca).lookup (Str.ofString "_signs") = some (.str z) := by
  unfold rflds
  rw [lookup_putF, if_neg rn3, lookup_putF, if_neg rn2, lookup_putF, if_neg rn1, lookup_putF, if_pos rfl]
theorem rflds_marks (z : Str) (ma : Addr) (tl : Str) (ca : Addr) : (rflds z ma tl ca).lookup (Str.ofString "_marks") = some (.ref ma) := by
  unfold rflds
  rw [lookup_putF, if_neg rn5, lookup_putF, if_neg rn4, lookup_putF, if_pos rfl]
theorem rflds_tail (z : Str) (ma : Addr) (tl : Str) (ca : Addr) : (rflds z ma tl ca).lookup (Str.ofString "_tail") = some (.str tl) := by
  unfold rflds
  rw [lookup_putF, if_neg rn6, lookup_putF, if_pos rfl]
theorem rflds_cares (z : Str) (ma : Addr) (tl : Str) (ca : Addr) : (rflds z ma tl ca).lookup (Str.ofString "_cares") = some (.ref ca) := by
  unfold rflds
  rw [lookup_putF, if_pos rfl]
theorem rflds_no (z : Str) (ma : Addr) (tl : Str) (ca : Addr) {m : Str} (h1 : ¬ m = Str.ofString "_cares") (h2 : ¬ m = Str.ofString "_tail") (h3 : ¬ m = Str.ofString "_marks") (h4 : ¬ m = Str.ofString "_signs") : (rflds z ma tl ca).lookup m = none := by
  unfold rflds
  rw [lookup_putF, if_neg h1, lookup_putF, if_neg h2, lookup_putF, if_neg h3, lookup_putF, if_neg h4]
  rfl
theorem two_len' (z : Str) (M : Addr) : (putF "_marks" (.ref M) (putF "_signs" (.str z) [])).length < 1000 := by
  show (if Str.ofString "_signs" = Str.ofString "_marks" then [(Str.ofString "_signs", V.ref M)] else (Str.ofString "_signs", V.str z) :: putF (Str.ofString "_marks") (.ref M) []).length < 1000
  rw [if_neg rn1]
  show 2 < 1000
  decide
theorem rn7 : (Str.ofString "_signs" = Str.ofString "_tail") = False := eq_false rn2
theorem three_len' (z : Str) (M : Addr) (tl : Str) : (putF "_tail" (.str tl) (putF "_marks" (.ref M) (putF "_signs" (.str z) []))).length < 1000 := by
  have e1 : putF "_marks" (.ref M) (putF "_signs" (.str z) []) = [(Str.ofString "_signs", V.str z), (Str.ofString "_marks", V.ref M)] := by
    show (if Str.ofString "_signs" = Str.ofString "_marks" then [(Str.ofString "_signs", V.ref M)] else (Str.ofString "_signs", V.str z) :: putF (Str.ofString "_marks") (.ref M) []) = _
    rw [if_neg rn1]
    rfl
  rw [e1]
  show (if Str.ofString "_signs" = Str.ofString "_tail" then (Str.ofString "_signs", V.str tl) :: [(Str.ofString "_marks", V.ref M)] else (Str.ofString "_signs", V.str z) :: (if Str.ofString "_marks" = Str.ofString "_tail" then [(Str.ofString "_marks", V.str tl)] else (Str.ofString "_marks", V.ref M) :: putF (Str.ofString "_tail") (.str tl) [])).length < 1000
  rw [if_neg rn2, if_neg rn4]
  show 3 < 1000
  decide
theorem rm1 : ¬ (Str.ofString "_role_line") = Str.ofString "_cares" := by decide +kernel
theorem rm2 : ¬ (Str.ofString "_role_line") = Str.ofString "_tail" := by decide +kernel
theorem rm3 : ¬ (Str.ofString "_role_line") = Str.ofString "_marks" := by decide +kernel
theorem rm4 : ¬ (Str.ofString "_role_line") = Str.ofString "_signs" := by decide +kernel
theorem cares_self {K : PySem.W.Frag} {H : Hp} (c : Cares) : ∀ e ∈ caresK c, ∃ u, valV (caresK c) e.1 = some u ∧ EqV K H 1 e.2 u := by
  intro e he
  have hs : ∀ x : Str, EqV K H 1 (.str x) (.str x) := fun x => .inl ⟨rfl, rfl⟩
  simp only [caresK, caresL, List.map_cons, List.map_nil, List.mem_cons, List.mem_nil_iff, or_false] at he
  rcases he with rfl | rfl | rfl | rfl
  · exact ⟨_, valV_pos rfl, hs _⟩
  · refine ⟨.str c.od, ?_, hs _⟩
    show valV (_ :: _) _ = _
    rw [valV_neg (keyN nk1)]
    exact valV_pos rfl
  · refine ⟨.str c.fu, ?_, hs _⟩
    show valV (_ :: _ :: _) _ = _
    rw [valV_neg (keyN nk2), valV_neg (keyN nk4)]
    exact valV_pos rfl
  · refine ⟨.str c.fi, ?_, hs _⟩
    show valV (_ :: _ :: _ :: _) _ = _
    rw [valV_neg (keyN nk3), valV_neg (keyN nk5), valV_neg (keyN nk6)]
    exact valV_pos rfl
def ReaderAt (C : Addr) (H : Hp) (p : Addr) (z : Str) (ms : List Str) (tl : Str) (c : Cares) : Prop := ∃ (dx ma ca : Addr), H p = some (.ins C dx (rflds z ma tl ca)) ∧ H ma = some (.lst (ms.map V.str)) ∧ H ca = some (.dK (caresK c))
theorem ReaderAt.same {C : Addr} {H H' : Hp} {p : Addr} {z : Str} {ms : List Str} {tl : Str} {c : Cares} (h : ReaderAt C H p z ms tl c) (s : Same H H') : ReaderAt C H' p z ms tl c := by
  obtain ⟨dx, ma, ca, h1, h2, h3⟩ := h
  exact ⟨dx, ma, ca, s _ _ h1, s _ _ h2, s _ _ h3⟩
structure MarksOk (z : Str) (ms : List Str) : Prop where
  lo : 1 ≤ ms.length
  hi : ms.length ≤ 3
  ov : ∀ m ∈ ms, Over z m
  l1 : ∀ m ∈ ms, 1 ≤ m.length
  l2 : ∀ m ∈ ms, m.length ≤ 12
  nd : ms.Nodup
structure TailOk (z tl : Str) : Prop where
  ov : Over z tl
  l1 : 1 ≤ tl.length
  l2 : tl.length ≤ 3
/-- what is needed of the class Reader -/
structure RdTxt (K : PySem.W.Frag) (mg : Str → Option Value) (C : Addr) : Prop where
  cl : Cls K C
  nS : NoAttr K C "_signs"
  nM : NoAttr K C "_marks"
  nT : NoAttr K C "_tail"
  nC : NoAttr K C "_cares"
  mgC : mg "Reader" = some (.ref C)
/-- the words of the module -/
structure WordsT (K : PySem.W.Frag) (w : World) (mg : Str → Option Value) : Prop where
  si : ∃ a, mg "SIGHTS" = some (.ref a) ∧ SqW K a [.str (Str.ofString "whole"), .str (Str.ofString "start")]
  ca : ∃ a, mg "CARE_WORDS" = some (.ref a) ∧ (∃ b, KDct K w a (Str.ofString "order") (.ref b) ∧ SqW K b [.str (Str.ofString "inner"), .str (Str.ofString "outer")]) ∧
    (∃ b, KDct K w a (Str.ofString "further") (.ref b) ∧ SqW K b [.str (Str.ofString "refuse"), .str (Str.ofString "close")]) ∧
    (∃ b, KDct K w a (Str.ofString "finish") (.ref b) ∧ SqW K b [.str (Str.ofString "refuse"), .str (Str.ofString "close")])
def spWord (K : PySem.W.Frag) : Sp := fun vs H Q _ => ∃ (v : Str) (a : Addr) (xs : List V), vs = [.str v, .ref a] ∧ SqT K H a xs ∧ xs.all flatV = true ∧ Q (.bl (inV (.str v) xs)) H
def spIsMark : Sp := fun vs H Q _ => ∃ (z m : Str), vs = [.str z, .str m] ∧ Over z m ∧ 1 ≤ m.length ∧ m.length ≤ 12 ∧ Q (.bl true) H
def spCheckMarks : Sp := fun vs H Q _ => ∃ (z : Str) (a : Addr) (ms : List Str), vs = [.str z, .ref a, .int 3] ∧ H a = some (.lst (ms.map V.str)) ∧ MarksOk z ms ∧ ∀ H', Same H H' → Q .non H'
def spIsSight : Sp := fun vs H Q _ => ∃ (z v : Str), vs = [.str z, .str v] ∧ SightOk z v ∧ v.length ≤ 10 ∧ Q (.bl true) H
def spTailB : Sp := fun vs H Q _ => ∃ (z tl : Str), vs = [.str z, .str tl] ∧ TailOk z tl ∧ Q (.bl true) H
def spCheckTail : Sp := fun vs H Q _ => ∃ (z tl : Str), vs = [.str z, .str tl] ∧ TailOk z tl ∧ Q .non H
def spCheckCare : Sp := fun vs H Q _ => ∃ (z nm v : Str), vs = [.str z, .str nm, .str v] ∧ CareOk z nm v ∧ Q .non H
def spRInit (C : Addr) : Sp := fun vs H Q _ => ∃ (p dx : Addr) (z : Str) (a : Addr) (ms : List Str) (tl : Str) (c : Cares), vs = [.ref p, .str z, .ref a, .str tl, .str c.si, .str c.od, .str c.fu, .str c.fi] ∧ H p = some (.ins C dx []) ∧ Abc z ∧
  H a = some (.lst (ms.map V.str)) ∧ MarksOk z ms ∧ TailOk z tl ∧ CaresOk z c ∧ ∀ H', ReaderAt C H' p z ms tl c → But p H H' → Q .non H'
end FL
namespace FL
open PySem PySem.Spec PyProof.Rows L2 LamX
/-! ### what the top left: defs and facts, tables of texts, one def's empty table of code objects; the part of the heap holds sysModules -/
def partU (n : Nat) (g : Addr → Option Obj) : PySem.W.Frag := He.frT g (sysModules :: He.asD g n)
abbrev SawU : Type := ((Bool × List He.FnV) × Bool) × List (Option (List (Option (Str × Int))))
def sawU (n : Nat) (ds : List DA) (ex : PySem.W.Frag → Bool) (ts : Tbs) (p : He.Defn) (g : Addr → Option Obj) : SawU :=
  ((lookF ds ex (partU n g), He.tabsB g [p] (partU n g)), ts.map fun t => He.dicW (partU n g) (t.1 (partU n g)))
theorem saysU_of {n : Nat} {ds : List DA} {ex : PySem.W.Frag → Bool} {p : He.Defn} {h : Heap} (e1 : lookF ds ex (partU n h.get?) = dueF ds) (e2 : He.tabsB h.get? [p] (partU n h.get?) = true) : SaysT ds ex p h (partU n h.get?) := by
  obtain ⟨a1, a2⟩ := Bool.and_eq_true_iff.mp (List.all_eq_true.mp e2 p List.mem_cons_self)
  cases q : h.get? (He.cT (partU n h.get?) p).2 with
  | none =>
    rw [q] at a2
    cases a2
  | some o =>
    rw [q] at a2
    exact ⟨e1, a1, He.frT_none q a2, by rw [q, He.emptyTab_eq a2]⟩
theorem tabsU_of {n : Nat} {ds : List DA} {ex : PySem.W.Frag → Bool} {ts : Tbs} {p : He.Defn} {w : World} {h : Heap} (e : sawU n ds ex ts p h.get? = ((dueF ds, true), ts.map fun t => some (He.keysIn w.params t.2))) : (ts.map fun t => He.dicW (partU n h.get?) (t.1 (partU n h.get?))) = ts.map fun t => some (He.keysIn w.params t.2) := congrArg Prod.snd e
def hookU (n : Nat) (ds : List DA) (ex : PySem.W.Frag → Bool) (ts : Tbs) (p : He.Defn) : PySem.W.Hook where
  α := SawU
  obs := fun s => sawU n ds ex ts p s.heap.get?
  val := fun w => ((dueF ds, true), ts.map fun t => some (He.keysIn w.params t.2))
  says := fun w h => ∃ K : PySem.W.Frag, K.In h ∧ SaysT ds ex p h K ∧ (ts.map fun t => He.dicW K (t.1 K)) = ts.map fun t => some (He.keysIn w.params t.2)
  of := fun _ _ e => ⟨_, He.frT_in, saysU_of (congrArg (fun z : SawU => z.1.1) e) (congrArg (fun z : SawU => z.1.2) e), tabsU_of e⟩
  keeps := fun _ _ _ ⟨K, i, c, d⟩ k => ⟨K, PySem.W.Frag.In.keeps i k, ⟨c.seen, c.code, c.out, k _ _ c.tab⟩, d⟩
def obU (n : Nat) (ds : List DA) (ex : PySem.W.Frag → Bool) (ts : Tbs) (p : He.Defn) (s : PySem.W.SharedT) : SawU := sawU n ds ex ts p (HandSHeadRun.getT s)
theorem obU_eq {n : Nat} {ds : List DA} {ex : PySem.W.Frag → Bool} {ts : Tbs} {p : He.Defn} (s : PySem.W.SharedT) : obU n ds ex ts p s = (hookU n ds ex ts p).obs s.abs := by
  have e : HandSHeadRun.getT s = s.abs.heap.get? := funext fun a => HandSHeadRun.getT_eq s a
  unfold obU
  rw [e]
  rfl
end FL
namespace FL
open PySem PySem.Spec PyProof.Rows L2 LamX
/-! ### what the top left, over a written list of addresses: defs and facts, tables of texts, the empty tables of several defs that make lambdas -/
abbrev SawL : Type := ((Bool × List He.FnV) × Bool) × List (Option (List (Option (Str × Int))))
def sawL (as : List Addr) (ds : List DA) (ex : PySem.W.Frag → Bool) (ts : Tbs) (ps : List He.Defn) (g : Addr → Option Obj) : SawL :=
  ((lookF ds ex (He.frT g as), He.tabsB g ps (He.frT g as)), ts.map fun t => He.dicW (He.frT g as) (t.1 (He.frT g as)))
structure SaysL (ds : List DA) (ex : PySem.W.Frag → Bool) (ps : List He.Defn) (h : Heap) (K : PySem.W.Frag) : Prop where
  seen : lookF ds ex K = dueF ds
  code : ∀ p ∈ ps, PySem.W.codeHdIn K (He.cT K p).1 (He.cT K p).2 = true
  out : ∀ p ∈ ps, K.lookup (He.cT K p).2 = none
  tab : ∀ p ∈ ps, h.get? (He.cT K p).2 = some bareTab
theorem saysL_of {as : List Addr} {ds : List DA} {ex : PySem.W.Frag → Bool} {ps : List He.Defn} {h : Heap} (e1 : lookF ds ex (He.frT h.get? as) = dueF ds) (e2 : He.tabsB h.get? ps (He.frT h.get? as) = true) : SaysL ds ex ps h (He.frT h.get? as) := by
  have key : ∀ p ∈ ps, PySem.W.codeHdIn (He.frT h.get? as) (He.cT (He.frT h.get? as) p).1 (He.cT (He.frT h.get? as) p).2 = true ∧ (He.frT h.get? as).lookup (He.cT (He.frT h.get? as) p).2 = none ∧ h.get? (He.cT (He.frT h.get? as) p).2 = some bareTab := fun p hp => by
    obtain ⟨a1, a2⟩ := Bool.and_eq_true_iff.mp (List.all_eq_true.mp e2 p hp)
    cases q : h.get? (He.cT (He.frT h.get? as) p).2 with
    | none =>
      rw [q] at a2
      cases a2
    | some o =>
      rw [q] at a2
      exact ⟨a1, He.frT_none q a2, by rw [He.emptyTab_eq a2]⟩
  exact ⟨e1, fun p hp => (key p hp).1, fun p hp => (key p hp).2.1, fun p hp => (key p hp).2.2⟩
theorem tabsL_of {as : List Addr} {ds : List DA} {ex : PySem.W.Frag → Bool} {ts : Tbs} {ps : List He.Defn} {w : World} {h : Heap} (e : sawL as ds ex ts ps h.get? = ((dueF ds, true), ts.map fun t => some (He.keysIn w.params t.2))) :
    (ts.map fun t => He.dicW (He.frT h.get? as) (t.1 (He.frT h.get? as))) = ts.map fun t => some (He.keysIn w.params t.2) := congrArg Prod.snd e
def hookL (as : List Addr) (ds : List DA) (ex : PySem.W.Frag → Bool) (ts : Tbs) (ps : List He.Defn) : PySem.W.Hook where
  α := SawL
  obs := fun s => sawL as ds ex ts ps s.heap.get?
  val := fun w => ((dueF ds, true), ts.map fun t => some (He.keysIn w.params t.2))
  says := fun w h => ∃ K : PySem.W.Frag, K.In h ∧ SaysL ds ex ps h K ∧ (ts.map fun t => He.dicW K (t.1 K)) = ts.map fun t => some (He.keysIn w.params t.2)
  of := fun _ _ e => ⟨_, He.frT_in, saysL_of (congrArg (fun z : SawL => z.1.1) e) (congrArg (fun z : SawL => z.1.2) e), tabsL_of e⟩
  keeps := fun _ _ _ ⟨K, i, c, d⟩ k => ⟨K, PySem.W.Frag.In.keeps i k, ⟨c.seen, c.code, c.out, fun p hp => k _ _ (c.tab p hp)⟩, d⟩
def obL (as : List Addr) (ds : List DA) (ex : PySem.W.Frag → Bool) (ts : Tbs) (ps : List He.Defn) (s : PySem.W.SharedT) : SawL := sawL as ds ex ts ps (HandSHeadRun.getT s)
theorem obL_eq {as : List Addr} {ds : List DA} {ex : PySem.W.Frag → Bool} {ts : Tbs} {ps : List He.Defn} (s : PySem.W.SharedT) : obL as ds ex ts ps s = (hookL as ds ex ts ps).obs s.abs := by
  have e : HandSHeadRun.getT s = s.abs.heap.get? := funext fun a => HandSHeadRun.getT_eq s a
  unfold obL
  rw [e]
  rfl
/-! ### the end with several tables -/
def withTs (ts : List Addr) (G : Hp) : Hp := fun b => if b ∈ ts then some (.tbl #[]) else G b
theorem withs_at {ts : List Addr} {b : Addr} {G : Hp} {u : HO} (h : withTs ts G b = some u) : (b ∈ ts ∧ u = .tbl #[]) ∨ (b ∉ ts ∧ G b = some u) := by
  unfold withTs at h
  by_cases c : b ∈ ts
  · rw [if_pos c] at h
    exact .inl ⟨c, (Option.some.inj h).symm⟩
  · rw [if_neg c] at h
    exact .inr ⟨c, h⟩
theorem endTs {P : Program} {w : World} {K : PySem.W.Frag} {mg mb : Str → Option Value} {k : Nat} {fa a : Addr} {cs : List (Addr × Addr)} {fd : FuncData} {x : Str} {sp : Sp} {s : Shared} {vs : List Value} {ns : List Int}
    (kx : K.In s.heap) (gl : s.heap.Ns mainGlobals mg) (bl : s.heap.Ns builtinsNs mb) (bb : ∀ y : Str, y ≠ "__name__" → mb y = bootBuiltins y) (nl : s.heap.NoLimit) (ng : s.gens = #[])
    (tabs : ∀ p ∈ cs, s.heap.get? p.2 = some bareTab) (outs : ∀ p ∈ cs, K.lookup p.2 = none) (cds : ∀ p ∈ cs, PySem.W.CodeHd s.heap p.1 p.2)
    (bmod : ∃ (bm : Addr) (ob : Obj), mg "__builtins__" = some (.ref bm) ∧ bm ≠ builtinsNs ∧ s.heap.get? bm = some ob ∧ ob.cls = .type "module" ∧ ob.dict = some builtinsNs ∧ ob.data = .plain)
    (oa : s.heap.get? a = some { cls := .type "list", data := .seq vs.toArray }) (hi : IntsAre vs ns) (le : ns.length ≤ sizeLine) (rm : Room k callerA)
    (F : ∀ base : Heap, K.In base → base.Ns mainGlobals mg → (∀ p ∈ cs, TabB base mg p.1 p.2) → FnG P w K mg base CX0 k fa fd [x] sp) (bd : ∀ (s : Shared) (u : Value), BindsTo s fd ⟨[u], []⟩ [(x, u)])
    (pr : ∀ H : Hp, (∀ p ∈ cs, H p.2 = some (.tbl #[])) → SqL K H a (ns.map V.int) → sp [.ref a] H (fun v _ => v = .bl true) fun _ _ _ => False) :
    codeAny (model P w) callerA (.call (.ref fa) ⟨[.ref a], []⟩) (fun r t => r = .ok (.ret (.bool true)) ∧ OldK s.heap t.heap ∧ t.os = s.os ∧ AllBare t.gens) s := by
  have rv := vals_ints hi
  have lv := hi.length
  let o : Obj := { cls := .type "list", data := .seq vs.toArray }
  let H : Hp := withTs (cs.map (·.2)) (onlyH K a o ns)
  have isT : ∀ {b : Addr}, b ∈ cs.map (·.2) → s.heap.get? b = some bareTab := fun {b} hb => by
    obtain ⟨p, hp, e⟩ := List.mem_map.mp hb
    rw [← e]
    exact tabs p hp
  have na : a ∉ cs.map (·.2) := fun z => by
    have := isT z
    rw [oa] at this
    cases this
  have hT : ∀ p ∈ cs, H p.2 = some (.tbl #[]) := fun p hp => if_pos (List.mem_map.mpr ⟨p, hp, rfl⟩)
  have hA : H a = onlyH K a o ns a := if_neg na
  have sq : SqL K H a (ns.map V.int) := by
    cases q : K.lookup a with
    | none => exact .inl (.inr ⟨o, hA.trans (if_pos ⟨rfl, q⟩)⟩)
    | some o' =>
      have e := kx a o' q
      rw [oa] at e
      cases e
      exact .inr ⟨_, vs.toArray, _, q, rfl, rfl, rfl, by rw [List.size_toArray, lv]; exact le, by simpa using rv⟩
  have ok : HOk P w H s.heap := fun b u e => by
    rcases withs_at e with ⟨hb, rfl⟩ | ⟨_, e⟩
    · exact isT hb
    · obtain ⟨rfl, _, rfl⟩ := only_at e
      exact ⟨oa, by rw [List.length_map]; exact le, vs, _, rv, oa⟩
  have seen : ∀ {b : Addr} {u : HO}, H b = some u → s.heap.get? b = some bareTab ∨ s.heap.get? b = some o := fun {b u} e => by
    rcases withs_at e with ⟨hb, _⟩ | ⟨_, e⟩
    · exact .inl (isT hb)
    · obtain ⟨rfl, _, _⟩ := only_at e
      exact .inr oa
  have stays : ∀ {b : Addr} {u : Obj}, s.heap.get? b = some u → (∀ v n, u.data ≠ .seq v n) → u.data ≠ .fields #[] → (hidT s.heap H).get? b = some u := fun {b u} e h1 h2 => by
    refine hidT_get e ?_
    cases q : H b with
    | none => rfl
    | some v =>
      rcases seen q with z | z
      · rw [e] at z
        cases z
        exact absurd rfl h2
      · rw [e] at z
        cases z
        exact absurd rfl (h1 _ _)
  have stay : ∀ {b : Addr} {m : Str → Option Value}, s.heap.Ns b m → (hidT s.heap H).Ns b m := fun {b m} n => by
    obtain ⟨ob, es, ep, e, d, r⟩ := n
    refine ⟨ob, es, ep, stays e (fun v n z => ?_) (fun z => ?_), d, r⟩
    · rw [d] at z
      cases z
    · rw [d] at z
      cases z
  have kb : K.In (hidT s.heap H) := fun b ob e => by
    refine hidT_get (kx b ob e) ?_
    cases q : H b with
    | none => rfl
    | some u =>
      rcases withs_at q with ⟨hb, _⟩ | ⟨_, q⟩
      · obtain ⟨p, hp, ep⟩ := List.mem_map.mp hb
        rw [← ep, outs p hp] at e
        cases e
      · obtain ⟨rfl, n, _⟩ := only_at q
        rw [n] at e
        cases e
  have md : Mod K mg (hidT s.heap H) := ⟨kb, stay gl, ⟨mb, stay bl, bb⟩, by
    obtain ⟨mc, n1, n2⟩ := nl
    exact ⟨mc, stay n1, n2⟩⟩
  have tb : ∀ p ∈ cs, TabB (hidT s.heap H) mg p.1 p.2 := fun p hp => by
    have tab := tabs p hp
    refine ⟨?_, ?_, ?_⟩
    · obtain ⟨u, us, f1, f2, f3, f4, f5, f6, f7, e1, r1, r2, r3, rest⟩ := cds p hp
      refine ⟨u, us, f1, f2, f3, f4, f5, f6, f7, stays e1 (fun v n z => ?_) (fun z => ?_), r1, r2, r3, rest⟩
      · rw [r2] at z
        cases z
      · rw [r2] at z
        cases z
        simp at r3
    · obtain ⟨bm, ob, m1, m2, m3, m4, m5, m6⟩ := bmod
      refine ⟨bm, ob, m1, m2, fun q => ?_, fun q => ?_, stays m3 (fun v n z => ?_) (fun z => ?_), m4, m5, m6⟩
      · obtain ⟨u, es, ep, e, d, _⟩ := gl
        rw [q, e] at m3
        cases m3
        rw [d] at m6
        cases m6
      · rw [q, tab] at m3
        cases m3
        cases m6
      · rw [m6] at z
        cases z
      · rw [m6] at z
        cases z
    · intro q
      obtain ⟨u, es, ep, e, d, _⟩ := gl
      rw [q, tab] at e
      cases e
      cases d
  have env : Env0 P w K mg (hidT s.heap H) callerA [] s H :=
    ⟨rfl, md, fun b ob e => of_hidT e, Nat.le_of_eq (hidT_size _ _), trivial, fun b q => absurd (show b ∈ ([] : List Addr) from q) (by simp), ok, .of_eq ng⟩
  have run := (F _ kb (stay gl) tb).goes callerA [] s H ⟨[.ref a], []⟩ [.ref a] [.ref a] _ _ rm rfl env (bd s (.ref a)) (.cons rfl .nil) (pr H hT sq)
  refine codeAny_mono run fun r t z => ?_
  cases r with
  | error e => exact False.elim z
  | ok fl =>
    cases fl with
    | next => exact False.elim z
    | brk => exact False.elim z
    | cont => exact False.elim z
    | ret u =>
      obtain ⟨v, H', so, br, un, ok', rr, q⟩ := z
      obtain rfl : v = .bl true := q
      obtain rfl : u = Value.bool true := rr
      have grown : ∀ b ∈ cs.map (·.2), ∃ more : Array Value, t.heap.get? b = some { cls := .none, data := .fields more } := fun b hb => by
        obtain ⟨m, z⟩ := un.tbls b #[] (if_pos hb)
        exact ⟨_, ok' b _ z⟩
      have old : ∀ b ob, b ∉ cs.map (·.2) → s.heap.get? b = some ob → t.heap.get? b = some ob := fun b ob nb e => by
        cases q : H b with
        | none => exact un.keep b ob e q (by intro n; exact absurd (show b ∈ ([] : List Addr) from n) (by simp)) (by simp)
        | some u =>
          rcases withs_at q with ⟨z, _⟩ | ⟨_, q2⟩
          · exact absurd z nb
          · obtain ⟨rfl, n, rfl⟩ := only_at q2
            obtain ⟨e2, _⟩ := ok' b _ (un.frzs b o _ q)
            rw [oa] at e
            cases e
            exact e2
      refine ⟨rfl, ⟨fun b ob e => ?_, fun b ob e => ?_⟩, so, br⟩
      · by_cases z : b ∈ cs.map (·.2)
        · obtain ⟨more, gm⟩ := grown b z
          obtain ⟨p, hp, ep⟩ := List.mem_map.mp z
          subst ep
          rw [tabs p hp] at e
          cases e
          exact .inr (.inl ⟨((cds p hp).tab (tabs p hp)).isCodeTable, rfl, #[], more, rfl, by rw [Array.empty_append]; exact gm⟩)
        · exact .inl (old b ob z e)
      · by_cases z : b ∈ cs.map (·.2)
        · obtain ⟨more, gm⟩ := grown b z
          exact ⟨_, gm⟩
        · exact ⟨ob, old b ob z e⟩
theorem walkTs {l : PySem.W.OpenLaw} {n k : Nat} {q : Program} {loose : List Str} {XP : (Str → Option Value) → Heap → Prop} {YP : World → Heap → Prop} {d : DefRec} {x : Str} (hn : l.most = some n) (hs : n ≤ sizeLine) (hd : d.params.defaults = []) (rm : Room k callerA)
    (F : ∀ (w : World) (mg : Str → Option Value) (fa : Addr) (h : Heap), YP w h → h.Ns mainGlobals mg → mg d.name = some (.ref fa) → ∃ (K : PySem.W.Frag) (fd : FuncData) (sp : Sp) (cs : List (Addr × Addr)), K.In h ∧ (∀ p ∈ cs, h.get? p.2 = some bareTab) ∧ (∀ p ∈ cs, K.lookup p.2 = none) ∧ (∀ p ∈ cs, PySem.W.CodeHd h p.1 p.2)
      ∧ (∀ (s : Shared) (u : Value), BindsTo s fd ⟨[u], []⟩ [(x, u)])
      ∧ (∀ (H : Hp) (a : Addr) (ns : List Int), ns.length ≤ n → (∀ p ∈ cs, H p.2 = some (.tbl #[])) → SqL K H a (ns.map V.int) → sp [.ref a] H (fun v _ => v = .bl true) fun _ _ _ => False)
      ∧ ∀ base : Heap, K.In base → base.Ns mainGlobals mg → (∀ p ∈ cs, TabB base mg p.1 p.2) → FnG l.prog w K mg base CX0 k fa fd [x] sp) :
    PySem.W.WalkO q loose XP YP l.row.toRowW d [] (fun f vs => PySem.call f vs) := by
  refine Att.attach_call hn hd ?_
  intro w s₀ s₁ mg mb fa o pm cd doc a vs ns G Y ho hd' hcd hmg hobj hints hlen hg
  obtain ⟨K, fd, sp, cs, kx, tabs, outs, codes, bd, pr, FF⟩ := F w mg fa _ Y G.T.g hmg
  exact endTs kx G.T.g G.T.b G.T.builtins G.T.nolimit hg tabs outs codes G.T.bmain hobj hints (Nat.le_trans hlen hs) rm FF bd fun H t0 sq => pr H a ns hlen t0 sq
end FL
namespace FL
open PySem PySem.Spec PyProof.Rows L2 LamX
/-! ### an error's class, as the top left it -/
def oexB (K : PySem.W.Frag) (C : Addr) : Bool := match K.lookup C with
  | some ⟨.type t, _, .cls cd, sl⟩ => decide (t = "type") && (match cd.mro, sl.toList with
    | .ref D :: bm, [_, _, _, _, some (.builtin m), _] => decide (D = C) && (decide (m = "ValueError.__new__") && (!cd.hasDel && (cd.hasDict && PySem.HandSPX.refsVE bm)))
    | _, _ => false)
  | _ => false
theorem oex_cls {K : PySem.W.Frag} {C : Addr} (h : oexB K C = true) : ∃ nm q N bs bm sn sub ab col dd k0 k1 k2 k3 k5, K.lookup C = some (excClassObj nm q C N bs bm true sn sub ab col dd k0 k1 k2 k3 k5 "ValueError.__new__") ∧ PySem.HandSPX.refsVE bm = true := by
  unfold oexB at h
  cases e : K.lookup C with
  | none =>
    rw [e] at h
    cases h
  | some o =>
    obtain ⟨oc, od, dt, sl⟩ := o
    rw [e] at h
    cases oc with
    | type t =>
      cases dt with
      | cls cd =>
        obtain ⟨et, h⟩ := Bool.and_eq_true_iff.mp h
        have et := of_decide_eq_true et
        obtain ⟨nm, bs, mro, ns, qn, hd, sn, sub, ab, col, del⟩ := cd
        obtain ⟨l⟩ := sl
        dsimp only at h
        split at h
        · obtain ⟨h1, h⟩ := Bool.and_eq_true_iff.mp h
          obtain ⟨h2, h⟩ := Bool.and_eq_true_iff.mp h
          obtain ⟨h3, h⟩ := Bool.and_eq_true_iff.mp h
          obtain ⟨h4, h5⟩ := Bool.and_eq_true_iff.mp h
          have h1 := of_decide_eq_true h1
          have h2 := of_decide_eq_true h2
          subst h1 h2 et
          have h3 : del = false := by simpa using h3
          have h4 : hd = true := h4
          subst h3 h4
          exact ⟨_, _, _, _, _, _, _, _, _, _, _, _, _, _, _, rfl, h5⟩
        · cases h
      | _ => cases h
    | _ => cases h
def ecB (K : PySem.W.Frag) (C : Addr) : Bool :=
  decide (PySem.W.findIn K (.ref C) "__getattribute__" = some (some (.builtin "BaseException.__getattribute__"))) && (decide (PySem.W.findIn K (.ref C) "__getattr__" = some none)
  && (decide (PySem.W.subIn K (.ref C) (.type "BaseException") = some true) && (PySem.W.hasDictIn K C && (decide (PySem.W.findIn K (.ref C) "__class__" = some (some (.builtin "object.__class__")))
  && (decide (PySem.W.specialIn K (.builtin "object.__class__") "__get__" = some (some (.builtin "getset_descriptor.__get__"))) && (decide (PySem.W.takesIn K (.builtin "object.__class__") = some true)
  && decide (PySem.W.mroIn K C (.type "object") = some true)))))))
theorem ec_ok {K : PySem.W.Frag} {C : Addr} (h : ecB K C = true) : ExcC K C := by
  unfold ecB at h
  simp only [Bool.and_eq_true, decide_eq_true_eq] at h
  obtain ⟨h1, h2, h3, h4, h5, h6, h7, h8⟩ := h
  exact ⟨h1, h2, h3, h4, h5, h6, h7, h8⟩
def errB (K : PySem.W.Frag) (n : Str) (C fI : Addr) : Bool :=
  oexB K C && (decide (PySem.W.findIn K (.ref C) "__setattr__" = some (some (.builtin "object.__setattr__"))) && (decide (PySem.W.subIn K (.ref C) (.type "BaseException") = some true)
  && (decide (PySem.W.typeIn K (.ref C) = some (.type "type")) && (PySem.W.keepIn K (.ref C) && (decide (PySem.W.findIn K (.ref C) "__init__" = some (some (.ref fI)))
  && (decide (PySem.W.typeIn K (.ref fI) = some (.type "function")) && (decide (PySem.W.findIn K (.ref C) n = some none) && (xfB K C && ecB K C))))))))
theorem err_ok {K : PySem.W.Frag} {mg : Str → Option Value} {x n : Str} {C fI : Addr} (h : errB K n C fI = true) (g : mg x = some (.ref C)) : ErC K mg x n C fI := by
  unfold errB at h
  simp only [Bool.and_eq_true, decide_eq_true_eq] at h
  obtain ⟨h1, h2, h3, h4, h5, h6, h7, h8, h9, h10⟩ := h
  exact ⟨g, ⟨oex_cls h1, h2, h3, h4, h5⟩, h6, h7, h8, xfB_ok h9, ec_ok h10⟩
end FL
/-! errors with two fields: __init__(self, m, n): self.m = m; self.n = n -/
namespace FL
open PySem PySem.Spec PyProof.Rows L2
structure ErC2 (K : PySem.W.Frag) (mg : Str → Option Value) (x m n : Str) (C fI : Addr) : Prop where
  gC : mg x = some (.ref C)
  oex : OexC K C
  iC : PySem.W.findIn K (.ref C) "__init__" = some (some (.ref fI))
  tI : PySem.W.typeIn K (.ref fI) = some (.type "function")
  no1 : PySem.W.findIn K (.ref C) m = some none
  no2 : PySem.W.findIn K (.ref C) n = some none
  xf : XfC K C
  ec : ExcC K C
def spErr2 (K : PySem.W.Frag) (m n : Str) : Sp := fun vs H Q _ => ∃ (a C : Addr) (u v : V), vs = [.ref a, u, v] ∧ OexC K C ∧ PySem.W.findIn K (.ref C) m = some none ∧ PySem.W.findIn K (.ref C) n = some none ∧ H a = some (exo a C none) ∧
  ∀ dx, H dx = none → dx ≠ a → Q .non (upd (upd (upd H dx (exd dx [(m, u)])) a (exo a C (some dx))) dx (exd dx [(n, v), (m, u)]))
section
variable {P : Program} {w : World} {K : PySem.W.Frag} {mg : Str → Option Value} {base : Heap}
theorem ok_err2 {q : Str} {st : Stmt} {m n : Str} {f : Addr} {fd : FuncData} {p1 p2 p3 p4 q1 q2 q3 q4 : Pos} (F : Fun K "__init__" q st f fd) (S : FnScope ["self", m, n] ["self", m, n] (defScope st))
    (hb : defBody st = [.Assign [.Attribute (.Name "self" p1) m p2] (.Name m p3) p4, .Assign [.Attribute (.Name "self" q1) n q2] (.Name n q3) q4]) (hs : Vis (defScope st) "self") (hm : Vis (defScope st) m) (hn : Vis (defScope st) n)
    (hd : (m == ("__debug__" : Str)) = false) (hcd : (m == ("__classdict__" : Str)) = false) (hd2 : (n == ("__debug__" : Str)) = false) (hcd2 : (n == ("__classdict__" : Str)) = false)
    (hsw : ∀ env : Env, swapsWith (.Name m p3) (some (.Attribute (.Name "self" p1) m p2)) p4.line env = pure false) (hsw2 : ∀ env : Env, swapsWith (.Name n q3) (some (.Attribute (.Name "self" q1) n q2)) q4.line env = pure false) :
    FnOk P w K mg base CX0 1 f fd ["self", m, n] (spErr2 K m n) := by
  refine F.ok S (fun vs H Q E h => ?_) (fun cdv A outer s H vs Q E hr h => ?_)
  · obtain ⟨_, _, _, _, rfl, _⟩ := h
    rfl
  · obtain ⟨a, C, u, v, rfl, T, n1, n2, ha, k⟩ := h
    rw [hb]
    refine ⟨_, pss_cons (ps_ost (pe_var (i := 0) rfl hs) (pe_var (i := 1) rfl hm hd hcd) (hsw _)) (pss_one (ps_ost (pe_var (i := 0) rfl hs) (pe_var (i := 2) rfl hn hd2 hcd2) (hsw2 _))), ?_⟩
    refine ⟨_, rfl, _, rfl, a, C, rfl, T, n1, .inl ⟨ha, fun dx h1 h2 => ?_⟩⟩
    refine ⟨_, rfl, _, rfl, a, C, rfl, T, n2, .inr ⟨dx, [(m, u)], upd_same, ?_, by show 1 ≤ 900; decide, k dx h1 h2⟩⟩
    rw [upd_ne h2, upd_same]
end
theorem del_upds2 {H : Hp} {a d : Addr} {o1 o2 o3 o4 o5 : HO} (n : H a = none) (hd : d ≠ a) : upd (del (upd (upd (upd (upd H a o1) d o2) a o3) d o5) a) d o4 = upd H d o4 := by
  funext b
  by_cases h1 : b = d
  · rw [h1, upd_same, upd_same]
  · rw [upd_ne h1, upd_ne h1]
    by_cases h2 : b = a
    · rw [h2, del_same, n]
    · rw [del_ne h2, upd_ne h1, upd_ne h2, upd_ne h1, upd_ne h2]
theorem mkErr2 {K : PySem.W.Frag} {m n : Str} {C : Addr} {u v : V} {H : Hp} {Q : XK} (T : OexC K C) (n1 : PySem.W.findIn K (.ref C) m = some none) (n2 : PySem.W.findIn K (.ref C) n = some none) (h : ∀ d, H d = none → Q (.ref C) (some d) (upd H d (.xd [(n, v), (m, u)]))) :
    [u, v].length ≤ 1000 ∧ ∀ a, H a = none → spErr2 K m n (.ref a :: ([u, v] ++ [])) (upd H a (exo a C none))
      (fun r H2 => r = .non ∧ ∃ (d : Addr) (fs : List (Str × V)), H2 a = some (exo a C (some d)) ∧ H2 d = some (exd d fs) ∧ H d = none ∧ Q (.ref C) (some d) (upd (del H2 a) d (.xd fs))) (fun _ _ _ => False) := by
  refine ⟨by show 2 ≤ 1000; decide, fun a ha => ⟨a, C, u, v, rfl, T, n1, n2, upd_same, fun dx h1 h2 => ⟨rfl, dx, [(n, v), (m, u)], ?_, upd_same, ?_, ?_⟩⟩⟩
  · rw [upd_ne (Ne.symm h2), upd_same]
  · rw [upd_ne h2] at h1
    exact h1
  · rw [upd_ne h2] at h1
    rw [del_upds2 ha h2]
    exact h dx h1
/-- an error's class, as the top left it -/
def errB2 (K : PySem.W.Frag) (m n : Str) (C fI : Addr) : Bool := errB K m C fI && decide (PySem.W.findIn K (.ref C) n = some none)
theorem err_ok2 {K : PySem.W.Frag} {mg : Str → Option Value} {x m n : Str} {C fI : Addr} (h : errB2 K m n C fI = true) (g : mg x = some (.ref C)) : ErC2 K mg x m n C fI := by
  obtain ⟨h1, h2⟩ := Bool.and_eq_true_iff.mp h
  have T := err_ok h1 g
  exact ⟨T.gC, T.oex, T.iC, T.tI, T.no, of_decide_eq_true h2, T.xf, T.ec⟩
end FL
/-! own errors over any built-in base (RuntimeError, ArithmeticError ..), whose __init__ stores one or two fields -/
namespace FL
open PySem PySem.Spec PyProof.Rows L2
/-- an own error's class over the base that it names, as the top left it -/
structure OgC (K : PySem.W.Frag) (C : Addr) : Prop where
  base : ∃ (B nw it : String) (tl : List Value), ExcBaseFacts B nw it tl ∧ StoreFacts B tl "object.__setattr__" "object" ∧ PySem.W.excInitIn K C tl nw = true ∧ PySem.W.excOver K C tl = true
  hdc : PySem.W.hasDictIn K C = true
  sta : PySem.W.findIn K (.ref C) "__setattr__" = some (some (.builtin "object.__setattr__"))
  sub : PySem.W.subIn K (.ref C) (.type "BaseException") = some true
  typ : PySem.W.typeIn K (.ref C) = some (.type "type")
  kp : PySem.W.keepIn K (.ref C) = true
/-- the object of such an error, its dict -/
abbrev ogO (C t : Addr) (d : Option Addr) : Obj := { cls := .ref C, dict := d, data := .fields #[.ref t, .none, .none, .none, .bool false, .none] }
theorem taker_none {K : PySem.W.Frag} {C : Addr} {f : Str} (h : PySem.W.findIn K (.ref C) f = some none) : PySem.W.takerIn K C f = some none := by
  unfold PySem.W.takerIn
  rw [h]
  rfl
section
open Builtin Builtin.ObjectAttr
variable {prog : Program} {w : World} {A : Around} {R : Result → Shared → Prop} {G : Heap} {gs : Array GenState} {dr : Drawn} {tt : Nat} {oo : OsState} {K : PySem.W.Frag}
/-- the first field: the dict is made -/
theorem first_field {f : Str} {tk : Tok} {u : Value} {e C t0 : Addr} (T : OgC K C) (KX : K.In G) (at_ : G.get? e = some (ogO C t0 none)) (no : PySem.W.findIn K (.ref C) f = some none)
    (q : ∀ G' tk' dx, (∀ b o, b ≠ e → G.get? b = some o → G'.get? b = some o) → G.objs.size ≤ dx → dx ≠ e → G'.get? e = some (ogO C t0 (some dx)) →
      G'.Ns1 dx (fun y => if y = f then some u else none) → R (.ok (.ret .none)) ⟨G', gs, dr, tk', oo⟩) :
    codeAny (model prog w) A (.call (.builtin "object.__setattr__") ⟨[.ref e, .str f tk, u], []⟩) R ⟨G, gs, dr, tt, oo⟩ := by
  obtain ⟨B, nw, it, tl, FB, SF, ei, ov⟩ := T.base
  have far : e ≠ G.objs.size := Nat.ne_of_lt (Heap.lt_size at_)
  refine PySem.W.osa_openX (od := none) (s := ⟨G, gs, dr, tt, oo⟩) SF KX ⟨at_, rfl, rfl, trivial⟩ ov (taker_none no) fun b => ?_
  obtain ⟨cd, hcd, dict⟩ := PySem.W.any_some T.hdc
  refine wpAny_bind (wpAny_pure (wpAny_bind (PySem.W.instanceDict_exc at_ (PySem.W.looks_clsIn KX hcd) dict ?_)))
  show wpAny _ _ (storeInDict G.objs.size (.str f tk) f u) _ _ _
  refine PySem.HandSPX.store_in_new ⟨_, #[], _, (Heap.get?_update_ne _ _ _ _ far.symm).trans (Heap.get?_push_at rfl rfl), rfl, fun x hx => absurd hx (by simp), fun _ => rfl⟩ fun G' tk' ns sb => ?_
  refine q G' tk' G.objs.size (fun b o ne ho => ?_) (Nat.le_refl _) far.symm ?_ ns
  · rw [sb.2 b (Nat.ne_of_lt (Heap.lt_size ho)), Heap.get?_update_ne _ _ _ _ ne]
    exact Heap.get?_push_of_some _ ho
  · rw [sb.2 e far]
    exact Heap.get?_update_self _ (Heap.get?_push_of_some _ at_) rfl
/-- a further field -/
theorem more_field {f : Str} {tk : Tok} {u : Value} {e C t0 dx : Addr} {m0 : Str → Option Value} {nl : List Str} (T : OgC K C) (KX : K.In G) (at_ : G.get? e = some (ogO C t0 (some dx))) (ns : G.Ns1 dx m0) (wi : Within m0 nl) (lz : nl.length ≤ 1000)
    (no : PySem.W.findIn K (.ref C) f = some none) (q : ∀ G' tk', (∀ b o, b ≠ dx → G.get? b = some o → G'.get? b = some o) → G'.Ns1 dx (fun y => if y = f then some u else m0 y) → R (.ok (.ret .none)) ⟨G', gs, dr, tk', oo⟩) :
    codeAny (model prog w) A (.call (.builtin "object.__setattr__") ⟨[.ref e, .str f tk, u], []⟩) R ⟨G, gs, dr, tt, oo⟩ := by
  obtain ⟨B, nw, it, tl, FB, SF, ei, ov⟩ := T.base
  obtain ⟨oD, _, _, atD, _, _⟩ := ns.count wi
  refine PySem.W.osa_openX (od := some oD) (s := ⟨G, gs, dr, tt, oo⟩) SF KX ⟨at_, rfl, rfl, atD⟩ ov (taker_none no) fun b => ?_
  obtain ⟨cd, hcd, dict⟩ := PySem.W.any_some T.hdc
  refine wpAny_bind (wpAny_pure (wpAny_bind (wpAny_bind (wpAny_loadPart at_ (wpAny_bind ((PySem.W.looks_clsIn KX hcd).here ?_))))))
  rw [dict]
  refine wpAny_pure (a := some dx) ?_
  exact PySem.OEX.store_in_old ns wi lz fun G' tk' ns' sb => q G' tk' (fun b o ne ho => (sb.2 b ne).trans ho) ns'
end
section
variable {X : Cx} {pins : List (Addr × Obj)} {σ : L2.St} {H : Hp} {s : Shared} {a C dx : Addr} {f : Str} {y : V} {u : Value} {fs : List (Str × V)} {Q : Unit → Shared → Prop} {E : Value → Shared → Prop} {A : Around}
theorem og_new (T : OgC X.K C) (J : Inv X pins σ H s) (at_ : H a = some (exo a C none)) (no : PySem.W.findIn X.K (.ref C) f = some none) (rel : RelV y u)
    (k : ∀ dx s', H dx = none → dx ≠ a → Inv X pins σ (upd (upd H dx (exd dx [(f, y)])) a (exo a C (some dx))) s' → Q () s') : wpAny (model X.prog X.w) A (setAttr (.ref a) f u) Q E s := by
  obtain ⟨t1, ho⟩ := exo_at J.hok at_
  obtain ⟨G, gs, dr, tt, oo⟩ := s
  refine PySem.W.set_plain J.kIn (ox := ogO C t1 none) (od := none) ⟨ho, rfl, rfl, trivial⟩ T.sta ?_
  refine first_field T J.kIn ho no fun G' tk' dx kp fresh ne hx ns => ?_
  have n0 : H dx = none := J.hok.fresh fresh
  have nd : ∀ {b : Addr} {o : Obj}, G.get? b = some o → b ≠ dx := fun {b o} z => Nat.ne_of_lt (Nat.lt_of_lt_of_le (Heap.lt_size z) fresh)
  have na : ∀ {b : Addr}, H b = none → b ≠ a := fun {b} n z => by
    rw [z, at_] at n
    cases n
  have un : Un X.fs [] H (upd (upd H dx (exd dx [(f, y)])) a (exo a C (some dx))) G G' :=
    ⟨fun b o z n _ _ => kp b o (na n) z, fun b o z n _ _ => ⟨o.slots, kp b o (na n) z⟩, fun b o z n _ => by rw [upd_ne (na n), upd_ne (nd z)]; exact n,
      fun b o z _ => by
        by_cases hb : b = a
        · exact ⟨_, by rw [hb]; exact hx⟩
        · exact ⟨o, kp b o hb z⟩,
      fun b xs z => by rw [upd_ne (at_ne at_ z exo_tup), upd_ne (ne_of_none z n0)]; exact z,
      fun b o v z => by rw [upd_ne (at_ne at_ z exo_frz), upd_ne (ne_of_none z n0)]; exact z,
      fun b ps z => ⟨#[], by rw [upd_ne (at_ne at_ z exo_tbl), upd_ne (ne_of_none z n0), z]; simp⟩⟩
  refine k dx _ n0 ne (J.un (t' := tk') un fun b o z => ?_)
  by_cases hb : b = a
  · subst hb
    rw [upd_same] at z
    cases z
    exact exo_ok hx
  · rw [upd_ne hb] at z
    by_cases hd : b = dx
    · subst hd
      rw [upd_same] at z
      cases z
      exact exd_ok ns (relO_put (fs := []) rel fun g => True.intro)
    · rw [upd_ne hd] at z
      have far : ∀ c, (c = b ∨ H c = some (.own b)) → c ≠ a := fun c hc => by
        rcases hc with rfl | hc
        · exact hb
        · exact at_ne at_ hc exo_own
      exact (J.hok b o z).stay (fun c v hc z2 => kp c v (far c hc) z2) (fun c hc => by rw [upd_ne (at_ne at_ hc exo_own), upd_ne (ne_of_none hc n0)]; exact hc)
        (fun c xs hc => by rw [upd_ne (at_ne at_ hc exo_tup), upd_ne (ne_of_none hc n0)]; exact hc)
theorem og_old (T : OgC X.K C) (J : Inv X pins σ H s) (at_ : H a = some (exo a C (some dx))) (atd : H dx = some (exd dx fs)) (few : fs.length ≤ 900) (no : PySem.W.findIn X.K (.ref C) f = some none) (rel : RelV y u)
    (k : ∀ s', Inv X pins σ (upd H dx (exd dx ((f, y) :: fs))) s' → Q () s') : wpAny (model X.prog X.w) A (setAttr (.ref a) f u) Q E s := by
  obtain ⟨t1, ho⟩ := exo_at J.hok at_
  obtain ⟨mA, ns, rels⟩ := exd_at J.hok atd
  have wi := within_of rels
  obtain ⟨G, gs, dr, tt, oo⟩ := s
  obtain ⟨oD, _, _, atD, _, _⟩ := ns.count wi
  refine PySem.W.set_plain J.kIn (ox := ogO C t1 (some dx)) (od := some oD) ⟨ho, rfl, rfl, atD⟩ T.sta ?_
  refine more_field T J.kIn ho ns wi (by rw [List.length_map]; omega) no fun G' tk' kp ns' => ?_
  refine k _ (J.write (t' := tk') (x := dx) (e := dx) (o := exd dx ((f, y) :: fs)) (by rw [atd]; exact True.intro) (.inl rfl) kp ?_ (exd_ok ns' (relO_put rel rels)))
  obtain ⟨o, _, _, eo, _⟩ := ns'
  exact ⟨o, eo⟩
end
/-- self.f = e in such a class's __init__ -/
def tOg (K : PySem.W.Frag) (f : Str) (to te : TE) : TS := fun D σ H => te σ H fun y H1 => to σ H1 fun x H2 => ∃ a C : Addr, x = .ref a ∧ OgC K C ∧ PySem.W.findIn K (.ref C) f = some none ∧
  ((H2 a = some (exo a C none) ∧ ∀ dx, H2 dx = none → dx ≠ a → D.nx σ (upd (upd H2 dx (exd dx [(f, y)])) a (exo a C (some dx)))) ∨
    ∃ (dx : Addr) (fs : List (Str × V)), H2 a = some (exo a C (some dx)) ∧ H2 dx = some (exd dx fs) ∧ fs.length ≤ 900 ∧ D.nx σ (upd H2 dx (exd dx ((f, y) :: fs))))
section
variable {X : Cx} {o e : Expr} {es : List Expr} {to te : TE} {ta : TA} {f : Str} {p p' pos : Pos}
theorem ps_og (ho : PE X o to) (he : PE X e te) (hs : swapsWith e (some (.Attribute o f p')) pos.line X.env = pure false := by rfl) : PS X (.Assign [.Attribute o f p'] e pos) (tOg X.K f to te) := by
  refine ⟨fun pins s σ H D J h => plainObj_wpAny_Assign_Attribute (thn (he.run pins s σ H _ J h) fun v s1 ⟨y, H1, J1, r1, q1⟩ => thn (ho.run pins s1 σ H1 _ J1 q1) fun u s2 ⟨x, H2, J2, r2, a, C, ex, T, no, q⟩ => ?_) hs⟩
  subst ex
  obtain rfl : u = Value.ref a := r2
  rcases q with ⟨at_, q⟩ | ⟨dx, fs, at_, atd, few, q⟩
  · exact og_new T J2 at_ no r1 fun dx s' n ne J' => ⟨σ, _, J', q dx n ne⟩
  · exact og_old T J2 at_ atd few no r1 fun s' J' => ⟨σ, _, J', q⟩
/-- C(e, ..), to be raised -/
theorem pmk_og {CX : CXT} {x : Str} {C fI : Addr} {k : Nat} {fd : FuncData} {ps : List Str} {sp : Sp} (T : OgC X.K C) (iC : PySem.W.findIn X.K (.ref C) "__init__" = some (some (.ref fI))) (tI : PySem.W.typeIn X.K (.ref fI) = some (.type "function"))
    (F1 : FnOk X.prog X.w X.K X.mg X.base CX k fI fd ps sp) (room : Room (k + 1) X.A) (bi : Binds X.K fd ps []) (hx : Passes CX X (fun _ _ _ => False)) (hg : Gl X x) (hm : X.mg x = some (.ref C)) (ha : PA X (e :: es) ta)
    (hdb : (x == ("__debug__" : Str)) = false := by decide) (he : starEach (e :: es) X.env = (false, eval e X.env) :: starEach es X.env := by rfl) (hpl : (backTo pos (starEach es X.env)).any (·.1) = false := by rfl) :
    PMk X (.Call (.Name x p) (e :: es) [] pos) (tMkO C sp [] ta) := by
  intro pins s0 σ H Q J wish
  obtain ⟨B, nw, it, tl, FB, SF, ei, ov⟩ := T.base
  refine wpAny_Call_Name_kw (ld_glob J hg hm ?_ hdb)
  refine PySem.W.callWith_K (h₀ := X.base) J.ok.mod.kin T.kp (thn (ha.run pos pins s0 σ H _ J wish) fun us s1 ⟨vs, H1, J1, rs, few, wish1⟩ => ⟨J1.kIn, ?_⟩) he hpl
  show wpAny _ _ (call (Value.ref C) us) _ _ _
  obtain ⟨G, gs, dr, tk, oo⟩ := s1
  obtain ⟨nm, N, qn, bs, bm, hdct, sn, subs, ab, col, dd, k0, k1, k2, k3, k5, atC, cont⟩ := PySem.W.excInit_of J1.kIn ei
  have room1 : G.objs.size ≤ G.objs.size + 1 := Nat.le_succ _
  have wish2 := wish1 (G.objs.size + 1) (J1.hok.fresh room1)
  rw [List.append_nil] at wish2
  have kp : ∀ b o, G.get? b = some o → ((G.push (PySem.W.kdv_tup us)).push (PySem.HandSPX.excO C G.objs.size)).get? b = some o := fun b o z => Heap.get?_push_of_some _ (Heap.get?_push_of_some _ z)
  have made : ((G.push (PySem.W.kdv_tup us)).push (PySem.HandSPX.excO C G.objs.size)).get? (G.objs.size + 1) = some (PySem.HandSPX.excO C G.objs.size) := by heap_get
  have J2 : Inv X pins σ (upd H1 (G.objs.size + 1) (exo (G.objs.size + 1) C none)) ⟨(G.push (PySem.W.kdv_tup us)).push (PySem.HandSPX.excO C G.objs.size), gs, dr, tk, oo⟩ :=
    J1.laid (a := G.objs.size + 1) (t' := tk) (o := exo (G.objs.size + 1) C none) (h' := (G.push (PySem.W.kdv_tup us)).push (PySem.HandSPX.excO C G.objs.size)) kp room1 (exo_ok made)
  have rs2 : Vals (V.ref (G.objs.size + 1) :: vs) (Value.ref (G.objs.size + 1) :: us) := .cons rfl rs
  have len : (Value.ref (G.objs.size + 1) :: us).length = ps.length := by
    rw [← rs2.length]
    exact F1.len _ _ _ _ wish2
  have lus : us.length ≤ sizeLine := by
    have e1 := Paired.length rs
    rw [sizeLine_eq]
    omega
  have bnd := bi _ (Value.ref (G.objs.size + 1) :: us) J2.kIn (by rw [List.append_nil]; exact len)
  rw [List.append_nil] at bnd
  refine wpAny_call (PySem.HandSPX.call_own FB cont atC (PySem.W.looks_findIn J1.kIn iC) (fun self => PySem.W.bind_fn J1.kIn self tI) lus
    (codeAny_mono (F1.run _ X.stack _ _ ⟨Value.ref (G.objs.size + 1) :: us, []⟩ (Value.ref (G.objs.size + 1) :: us) _ _ (fun _ _ _ => False) (room.make C us []) (J2.env0.make C us []) bnd rs2 wish2) fun r s' back => ?_))
  cases r with
  | error er => exact hx pins σ _ _ er s' J2 back
  | ok fl =>
    cases fl with
    | ret u =>
      obtain ⟨v, H2, os2, bare2, un2, hok2, rv, ev, d, fs, ea, ed, hd1, q2⟩ := back
      subst ev
      obtain ⟨h2, g2, d2, t2, o2⟩ := s'
      exact ⟨rv, mk_end (raises_own T.sub T.typ) J1 room1 kp un2 hok2 os2 bare2 ea ed hd1 q2⟩
    | next => exact back.elim
    | brk => exact back.elim
    | cont => exact back.elim
end
/-- __init__(self, m, n): self.m = m; self.n = n -/
def spEr2 (K : PySem.W.Frag) (m n : Str) : Sp := fun vs H Q _ => ∃ (a C : Addr) (u v : V), vs = [.ref a, u, v] ∧ OgC K C ∧ PySem.W.findIn K (.ref C) m = some none ∧ PySem.W.findIn K (.ref C) n = some none ∧ H a = some (exo a C none) ∧
  ∀ dx, H dx = none → dx ≠ a → Q .non (upd (upd (upd H dx (exd dx [(m, u)])) a (exo a C (some dx))) dx (exd dx [(n, v), (m, u)]))
structure EgC2 (K : PySem.W.Frag) (mg : Str → Option Value) (x m n : Str) (C fI : Addr) : Prop where
  gC : mg x = some (.ref C)
  og : OgC K C
  iC : PySem.W.findIn K (.ref C) "__init__" = some (some (.ref fI))
  tI : PySem.W.typeIn K (.ref fI) = some (.type "function")
  no1 : PySem.W.findIn K (.ref C) m = some none
  no2 : PySem.W.findIn K (.ref C) n = some none
  xf : XfC K C
  ec : ExcC K C
section
variable {P : Program} {w : World} {K : PySem.W.Frag} {mg : Str → Option Value} {base : Heap}
theorem ok_er2 {q : Str} {st : Stmt} {m n : Str} {f : Addr} {fd : FuncData} {p1 p2 p3 p4 q1 q2 q3 q4 : Pos} (F : Fun K "__init__" q st f fd) (S : FnScope ["self", m, n] ["self", m, n] (defScope st))
    (hb : defBody st = [.Assign [.Attribute (.Name "self" p1) m p2] (.Name m p3) p4, .Assign [.Attribute (.Name "self" q1) n q2] (.Name n q3) q4]) (hs : Vis (defScope st) "self") (hm : Vis (defScope st) m) (hn : Vis (defScope st) n)
    (hd : (m == ("__debug__" : Str)) = false) (hcd : (m == ("__classdict__" : Str)) = false) (hd2 : (n == ("__debug__" : Str)) = false) (hcd2 : (n == ("__classdict__" : Str)) = false)
    (hsw : ∀ env : Env, swapsWith (.Name m p3) (some (.Attribute (.Name "self" p1) m p2)) p4.line env = pure false) (hsw2 : ∀ env : Env, swapsWith (.Name n q3) (some (.Attribute (.Name "self" q1) n q2)) q4.line env = pure false) :
    FnOk P w K mg base CX0 1 f fd ["self", m, n] (spEr2 K m n) := by
  refine F.ok S (fun vs H Q E h => ?_) (fun cdv A outer s H vs Q E hr h => ?_)
  · obtain ⟨_, _, _, _, rfl, _⟩ := h
    rfl
  · obtain ⟨a, C, u, v, rfl, T, n1, n2, ha, k⟩ := h
    rw [hb]
    refine ⟨_, pss_cons (ps_og (pe_var (i := 0) rfl hs) (pe_var (i := 1) rfl hm hd hcd) (hsw _)) (pss_one (ps_og (pe_var (i := 0) rfl hs) (pe_var (i := 2) rfl hn hd2 hcd2) (hsw2 _))), ?_⟩
    refine ⟨_, rfl, _, rfl, a, C, rfl, T, n1, .inl ⟨ha, fun dx h1 h2 => ?_⟩⟩
    refine ⟨_, rfl, _, rfl, a, C, rfl, T, n2, .inr ⟨dx, [(m, u)], upd_same, ?_, by show 1 ≤ 900; decide, k dx h1 h2⟩⟩
    rw [upd_ne h2, upd_same]
end
theorem mkEr2 {K : PySem.W.Frag} {m n : Str} {C : Addr} {u v : V} {H : Hp} {Q : XK} (T : OgC K C) (n1 : PySem.W.findIn K (.ref C) m = some none) (n2 : PySem.W.findIn K (.ref C) n = some none) (h : ∀ d, H d = none → Q (.ref C) (some d) (upd H d (.xd [(n, v), (m, u)]))) :
    [u, v].length ≤ 1000 ∧ ∀ a, H a = none → spEr2 K m n (.ref a :: ([u, v] ++ [])) (upd H a (exo a C none))
      (fun r H2 => r = .non ∧ ∃ (d : Addr) (fs : List (Str × V)), H2 a = some (exo a C (some d)) ∧ H2 d = some (exd d fs) ∧ H d = none ∧ Q (.ref C) (some d) (upd (del H2 a) d (.xd fs))) (fun _ _ _ => False) := by
  refine ⟨by show 2 ≤ 1000; decide, fun a ha => ⟨a, C, u, v, rfl, T, n1, n2, upd_same, fun dx h1 h2 => ⟨rfl, dx, [(n, v), (m, u)], ?_, upd_same, ?_, ?_⟩⟩⟩
  · rw [upd_ne (Ne.symm h2), upd_same]
  · rw [upd_ne h2] at h1
    exact h1
  · rw [upd_ne h2] at h1
    rw [del_upds2 ha h2]
    exact h dx h1
/-! ### such a class, as the top left it -/
def ogB (K : PySem.W.Frag) (tl : List Value) (nw : String) (C : Addr) : Bool :=
  PySem.W.excInitIn K C tl nw && (PySem.W.excOver K C tl && (PySem.W.hasDictIn K C && (decide (PySem.W.findIn K (.ref C) "__setattr__" = some (some (.builtin "object.__setattr__"))) && (decide (PySem.W.subIn K (.ref C) (.type "BaseException") = some true)
  && (decide (PySem.W.typeIn K (.ref C) = some (.type "type")) && PySem.W.keepIn K (.ref C))))))
theorem og_ok {K : PySem.W.Frag} {tl : List Value} {B nw it : String} {C : Addr} (FB : ExcBaseFacts B nw it tl) (SF : StoreFacts B tl "object.__setattr__" "object") (h : ogB K tl nw C = true) : OgC K C := by
  unfold ogB at h
  simp only [Bool.and_eq_true, decide_eq_true_eq] at h
  obtain ⟨h1, h2, h3, h4, h5, h6, h7⟩ := h
  exact ⟨⟨B, nw, it, tl, FB, SF, h1, h2⟩, h3, h4, h5, h6, h7⟩
abbrev tlA : List Value := [.type "ArithmeticError", .type "Exception", .type "BaseException", .type "object"]
abbrev tlR : List Value := [.type "RuntimeError", .type "Exception", .type "BaseException", .type "object"]
def egB2 (K : PySem.W.Frag) (tl : List Value) (nw : String) (m n : Str) (C fI : Addr) : Bool :=
  ogB K tl nw C && (decide (PySem.W.findIn K (.ref C) "__init__" = some (some (.ref fI))) && (decide (PySem.W.typeIn K (.ref fI) = some (.type "function"))
  && (decide (PySem.W.findIn K (.ref C) m = some none) && (decide (PySem.W.findIn K (.ref C) n = some none) && (xfB K C && ecB K C)))))
theorem eg_ok2 {K : PySem.W.Frag} {mg : Str → Option Value} {x m n : Str} {tl : List Value} {B nw it : String} {C fI : Addr} (FB : ExcBaseFacts B nw it tl) (SF : StoreFacts B tl "object.__setattr__" "object") (h : egB2 K tl nw m n C fI = true)
    (g : mg x = some (.ref C)) : EgC2 K mg x m n C fI := by
  unfold egB2 at h
  simp only [Bool.and_eq_true, decide_eq_true_eq] at h
  obtain ⟨h1, h2, h3, h4, h5, h6, h7⟩ := h
  exact ⟨g, og_ok FB SF h1, h2, h3, h4, h5, xfB_ok h6, ec_ok h7⟩
theorem egA2 {K : PySem.W.Frag} {mg : Str → Option Value} {x m n : Str} {C fI : Addr} (h : egB2 K tlA "ArithmeticError.__new__" m n C fI = true) (g : mg x = some (.ref C)) : EgC2 K mg x m n C fI := eg_ok2 PySem.F.excBase_ArithmeticError PySem.F.store_ArithmeticError h g
theorem egR2 {K : PySem.W.Frag} {mg : Str → Option Value} {x m n : Str} {C fI : Addr} (h : egB2 K tlR "RuntimeError.__new__" m n C fI = true) (g : mg x = some (.ref C)) : EgC2 K mg x m n C fI := eg_ok2 PySem.F.excBase_RuntimeError PySem.F.store_RuntimeError h g
end FL
namespace FL
open PySem PySem.Spec PyProof.Rows L2
/-! ### what stays where only the pot changes -/
theorem But.rules {p : Addr} {H H' : Hp} {xs : List V} {rs : List Rule} (b : But p H H') (hp : PotAt H p) (h : RulesAt H xs rs) : RulesAt H' xs rs := RulesAt.imp h (b.tups hp)
theorem pot_list {H : Hp} {p : Addr} {xs : List V} {rs : List Rule} (hp : PotAt H p) (h : H p = some (.lst xs)) (r : RulesAt H xs rs) : False := by
  obtain ⟨a, b, e, _⟩ := hp
  rw [e] at h
  cases h
  cases r with
  | cons x _ =>
    obtain ⟨t, q, _⟩ := x
    cases q
theorem But.sqR {K : PySem.W.Frag} {p D : Addr} {H H' : Hp} {xs : List V} {rs : List Rule} (b : But p H H') (hp : PotAt H p) (h : SqL K H D xs) (r : RulesAt H xs rs) : SqL K H' D xs := by
  rcases h with (h | ⟨o, h⟩) | h
  · refine .inl (.inl (b _ _ h fun e => ?_))
    subst e
    exact pot_list hp h r
  · refine .inl (.inr ⟨o, b _ _ h fun e => ?_⟩)
    obtain ⟨_, _, q, _⟩ := hp
    rw [e, q] at h
    cases h
  · exact .inr h
theorem Deal.but {K : PySem.W.Frag} {H H' : Hp} {D p : Addr} {z : Str} {rs : List Rule} (d : Deal K H D z rs) (hp : PotAt H p) (b : But p H H') : Deal K H' D z rs := by
  obtain ⟨xs, h1, h2⟩ := d.ex
  exact ⟨d.az, ⟨xs, b _ _ h1 (fun e => by subst e; exact pot_list hp h1 h2), b.rules hp h2⟩, d.ok, d.le⟩
theorem RelayAt.but {C : Addr} {H H' : Hp} {p q : Addr} {z : Str} {rs : List Rule} (h : RelayAt C H p z rs) (hq : PotAt H q) (b : But q H H') : RelayAt C H' p z rs := by
  obtain ⟨dx, ra, ia, xs, h1, h2, h3, kvs, h4, h5, h6⟩ := h
  obtain ⟨_, _, e, _⟩ := id hq
  have n : ∀ {c : Addr} {o : HO}, H c = some o → (∀ l, o ≠ .lst l) → c ≠ q := fun {c o} ec no q' => by
    rw [q', e] at ec
    exact no _ (Option.some.inj ec).symm
  refine ⟨dx, ra, ia, xs, b _ _ h1 (n h1 fun l z => by cases z), b _ _ h2 (fun q' => ?_), b.rules hq h3, kvs, b _ _ h4 (n h4 fun l z => by cases z), h5, h6.imp (b.tups hq)⟩
  subst q'
  exact pot_list hq h2 h3
theorem Same.pot {H H' : Hp} {p : Addr} (s : Same H H') (h : PotAt H p) : PotAt H' p := by
  obtain ⟨a, b, e, r⟩ := h
  exact ⟨a, b, s _ _ e, r⟩
/-! ### turned lines -/
theorem turn_note {z : Str} {b : Nat} : ∀ {rs : List Rule} {y : Str}, (∀ r ∈ rs, RuleOk z b r) → Over z y → Over z (turn rs y) ∧ (turn rs y).length ≤ y.length + b
  | [], y, _, o => ⟨o, Nat.le_add_right _ _⟩
  | r :: rs, y, h, o => by
    have hr := h r List.mem_cons_self
    show Over z (if fits r y = true then turnR r y else turn rs y) ∧ (if fits r y = true then turnR r y else turn rs y).length ≤ _
    by_cases hf : fits r y = true
    · rw [if_pos hf]
      obtain ⟨f, ol, nw⟩ := r
      cases f with
      | true =>
        show Over z (nw ++ cutS y (some (ol.length : Int)) none) ∧ (nw ++ cutS y (some (ol.length : Int)) none).length ≤ _
        refine ⟨over_app hr.n1 (over_cut o _ _), ?_⟩
        rw [len_app]
        have := cutS_length y (some (ol.length : Int)) none
        have h2 : nw.length ≤ b := hr.n2
        omega
      | false => exact ⟨hr.n1, Nat.le_trans hr.n2 (Nat.le_add_left _ _)⟩
    · rw [if_neg hf]
      exact turn_note (fun r' hr' => h r' (List.mem_cons_of_mem _ hr')) o
def spTurns (K : PySem.W.Frag) (C : Addr) : Sp := fun vs H Q _ => ∃ (q : Addr) (z : Str) (D p : Addr) (rs : List Rule), vs = [.ref q, .str z, .ref D, .ref p] ∧ PotAt H q ∧ Deal K H D z rs ∧ RelayAt C H p z rs ∧
  ∀ H', PotAt H' q → But q H H' → Q (.bl true) H'
/-- a line of the signs that is not too long -/
def Ln (z y : Str) : Prop := Over z y ∧ y.length ≤ 3000
theorem three_sm {z y : Str} (az : Abc z) (o : Over z y) (l : y.length ≤ 5000) : Sm 400000 (.list [.str y, .str y, .str y]) := by
  have s := (Sm.str (az.plain o)).mono (show 10 * y.length + 2 ≤ 50002 by omega)
  exact (Sm.list (k := 0) (SmL.cons s (Nat.le_refl _) (SmL.cons s (Nat.le_refl _) (SmL.cons s (Nat.le_refl _) SmL.nil))) (by decide)).mono (by decide)
end FL
namespace FL
open PySem PySem.Spec PyProof.Rows L2
theorem snoc_of {α : Type} : ∀ {l : List α}, 0 < l.length → ∃ i x, l = i ++ [x]
  | [], h => absurd h (Nat.lt_irrefl 0)
  | a :: r, _ => by
    cases r with
    | nil => exact ⟨[], a, rfl⟩
    | cons b r =>
      obtain ⟨i, x, e⟩ := snoc_of (l := b :: r) (Nat.succ_pos _)
      exact ⟨a :: i, x, by rw [e]; rfl⟩
theorem atI_0 {α : Type} {a b : α} {r : List α} : atI (a :: b :: r) 0 = some a := atI_nat (j := 0) rfl
theorem atI_1 {α : Type} {a b : α} {r : List α} : atI (a :: b :: r) 1 = some b := atI_nat (j := 1) rfl
theorem two_signs {z : Str} (h : 2 ≤ z.length) : ∃ a b r, z.cps.toList = a :: b :: r := by
  rw [str_len] at h
  cases e : z.cps.toList with
  | nil =>
    rw [e] at h
    exact absurd h (by decide)
  | cons a l =>
    cases l with
    | nil =>
      rw [e] at h
      simp at h
    | cons b r => exact ⟨a, b, r, rfl⟩
theorem over_rep {z : Str} {c n : Nat} (h : c ∈ z.cps.toList) : Over z (repS ⟨#[c]⟩ n) := fun d hd => by
  have := repS_mem hd
  have e : d = c := by simpa using this
  rw [e]
  exact h
theorem rep_len (c n : Nat) : (repS ⟨#[c]⟩ n).length = n := by
  rw [repS_len]
  show n * 1 = n
  exact Nat.mul_one n
end FL
namespace FL
open PySem PySem.Spec PyProof.Rows L2
/-! ### rules that are hidden -/
theorem cut_pre (y : Str) (n : Nat) : (cutS y none (some (n : Int))).cps.toList = y.cps.toList.take n := by
  show ((y.cps.toList.drop (HT.sIx y.length 0 none)).take (HT.sIx y.length y.length (some (n : Int)) - HT.sIx y.length 0 none)).toArray.toList = _
  rw [HT.sIx_nat, HT.sIx_none]
  show (y.cps.toList.drop 0).take (min n y.length - 0) = _
  rw [List.drop_zero, Nat.sub_zero, str_len]
  by_cases h : n ≤ y.cps.toList.length
  · rw [Nat.min_eq_left h]
  · rw [Nat.min_eq_right (by omega), List.take_of_length_le (Nat.le_refl _), List.take_of_length_le (by omega)]
theorem pre_iff {y b : Str} : cutS y none (some (b.length : Int)) = b ↔ y.cps.toList.take b.cps.toList.length = b.cps.toList := by
  rw [← str_len]
  constructor
  · intro h
    rw [← cut_pre, h]
  · intro h
    apply Str_ext
    rw [cut_pre, h]
/-- an earlier rule says all that this one says -/
def hides (e r : Rule) : Bool := (e.fr && decide (cutS r.old none (some (e.old.length : Int)) = e.old)) || (decide (e.fr = r.fr) && decide (e.old = r.old))
theorem pre_trans {y o b : Str} (h1 : cutS o none (some (b.length : Int)) = b) (h2 : cutS y none (some (o.length : Int)) = o) : cutS y none (some (b.length : Int)) = b := by
  rw [pre_iff] at h1 h2 ⊢
  have l := congrArg List.length h1
  rw [List.length_take] at l
  rw [← h2, List.take_take, Nat.min_eq_left (by omega)] at h1
  exact h1
theorem hides_fits {e r : Rule} {y : Str} (h : hides e r = true) (hf : fits r y = true) : fits e y = true := by
  unfold hides at h
  rcases Bool.or_eq_true_iff.mp h with h | h
  · obtain ⟨h1, h2⟩ := Bool.and_eq_true_iff.mp h
    have h3 := of_decide_eq_true h2
    clear h2
    obtain ⟨f, o, n⟩ := e
    obtain ⟨f', o', n'⟩ := r
    dsimp only at h1 h3
    subst h1
    show decide (cutS y none (some (o.length : Int)) = o) = true
    apply decide_eq_true
    cases f' with
    | true => exact pre_trans h3 (of_decide_eq_true hf)
    | false =>
      have e' : y = o' := of_decide_eq_true hf
      rw [e']
      exact h3
  · obtain ⟨h1, h2⟩ := Bool.and_eq_true_iff.mp h
    rw [fits_same (r := r) ⟨of_decide_eq_true h1, of_decide_eq_true h2⟩]
    exact hf
theorem turn_fit : ∀ {l s : List Rule} {y : Str}, (∃ r ∈ l, fits r y = true) → turn (l ++ s) y = turn l y
  | [], _, _, ⟨_, h, _⟩ => nomatch h
  | a :: l, s, y, ⟨r, hr, hf⟩ => by
    show (if fits a y = true then _ else turn (l ++ s) y) = (if fits a y = true then _ else turn l y)
    by_cases ha : fits a y = true
    · rw [if_pos ha, if_pos ha]
    · rw [if_neg ha, if_neg ha]
      rcases List.mem_cons.mp hr with rfl | h
      · exact absurd hf ha
      · exact turn_fit ⟨r, h, hf⟩
theorem turn_none : ∀ {l s : List Rule} {y : Str}, (∀ r ∈ l, fits r y = false) → turn (l ++ s) y = turn s y
  | [], _, _, _ => rfl
  | a :: l, s, y, h => by
    show (if fits a y = true then _ else turn (l ++ s) y) = _
    rw [h a List.mem_cons_self, if_neg Bool.false_ne_true]
    exact turn_none fun r hr => h r (List.mem_cons_of_mem _ hr)
theorem fit_or (l : List Rule) (y : Str) : (∃ r ∈ l, fits r y = true) ∨ ∀ r ∈ l, fits r y = false := by
  rcases exists_first (rs := l) (y := y) with h | ⟨i, r, h1, h2, _⟩
  · exact .inr h
  · exact .inl ⟨r, List.mem_of_getElem? h1, h2⟩
theorem turn_skip {l t : List Rule} {r : Rule} (h : l.any (fun e => hides e r) = true) (y : Str) : turn (l ++ r :: t) y = turn (l ++ t) y := by
  obtain ⟨e, he, hh⟩ := List.any_eq_true.mp h
  rcases fit_or l y with hl | hl
  · rw [turn_fit hl, turn_fit hl]
  · rw [turn_none hl, turn_none hl]
    have : fits r y = false := by
      cases q : fits r y with
      | false => rfl
      | true =>
        have := hides_fits hh q
        rw [hl e he] at this
        cases this
    show (if fits r y = true then _ else turn t y) = _
    rw [this, if_neg Bool.false_ne_true]
theorem turn_again {l t : List Rule} (h : ∀ r ∈ t, r ∈ l) (y : Str) : turn (l ++ t) y = turn l y := by
  rcases fit_or l y with hl | hl
  · exact turn_fit hl
  · rw [turn_none hl, turn_no hl, turn_no fun r hr => hl r (h r hr)]
theorem turn_void {l : List Rule} (y : Str) : turn (l ++ [⟨true, Str.ofString "", Str.ofString ""⟩]) y = turn l y := by
  rcases fit_or l y with hl | hl
  · exact turn_fit hl
  · rw [turn_none hl, turn_no hl]
    have e0 : (Str.ofString "").cps.toList = [] := by decide +kernel
    have l0 : (Str.ofString "").length = 0 := by decide +kernel
    have hf : fits ⟨true, Str.ofString "", Str.ofString ""⟩ y = true := by
      show decide (cutS y none (some ((Str.ofString "").length : Int)) = Str.ofString "") = true
      exact decide_eq_true (pre_iff.mpr (by rw [e0]; rfl))
    show (if fits ⟨true, Str.ofString "", Str.ofString ""⟩ y = true then Str.ofString "" ++ cutS y (some ((Str.ofString "").length : Int)) none else y) = y
    rw [if_pos hf, l0]
    apply Str_ext
    rw [Str.cps_append, Array.toList_append, e0]
    show ((y.cps.toList.drop (HT.sIx y.length 0 (some ((0 : Nat) : Int)))).take (HT.sIx y.length y.length none - HT.sIx y.length 0 (some ((0 : Nat) : Int)))).toArray.toList = _
    rw [HT.sIx_nat, HT.sIx_none, Nat.zero_min, Nat.sub_zero, List.drop_zero, List.take_of_length_le (by rw [← str_len]; exact Nat.le_refl _)]
theorem eqv_key (a b : Rule) : PyData.eqv (.tuple [.str (kd a.fr), .str a.old]) (.tuple [.str (kd b.fr), .str b.old]) = (decide (a.fr = b.fr) && decide (a.old = b.old)) := by
  obtain ⟨f, o, n⟩ := a
  obtain ⟨f', o', n'⟩ := b
  show ((kd f == kd f') && ((o == o') && true)) = _
  rw [Bool.and_true]
  have e1 : (kd f == kd f') = decide (f = f') := by
    by_cases h : f = f'
    · subst h
      simp
    · rw [decide_eq_false h]
      have : kd f ≠ kd f' := by
        cases f <;> cases f' <;> first | exact absurd rfl h | exact kd_ne | exact Ne.symm kd_ne
      simpa using this
  have e2 : (o == o') = decide (o = o') := by
    by_cases h : o = o'
    · subst h
      simp
    · rw [decide_eq_false h]
      simpa using h
  rw [e1, e2]
theorem pick_rules {H : Hp} {xs : List V} {rs : List Rule} (h : RulesAt H xs rs) : ∀ {ys : List V}, (∀ y ∈ ys, y ∈ xs) → ∃ ts, RulesAt H ys ts ∧ ∀ t ∈ ts, t ∈ rs
  | [], _ => ⟨[], .nil, fun _ q => nomatch q⟩
  | y :: ys, m => by
    obtain ⟨ts, h1, h2⟩ := pick_rules h (ys := ys) fun v hv => m v (List.mem_cons_of_mem _ hv)
    obtain ⟨t, ht, hr⟩ := paired_mem h (m y List.mem_cons_self)
    refine ⟨t :: ts, .cons hr h1, fun u hu => ?_⟩
    rcases List.mem_cons.mp hu with rfl | hu
    · exact ht
    · exact h2 u hu
theorem paired_app {α β : Type} {R : α → β → Prop} : ∀ {xs zs : List α} {ys ws : List β}, Paired R xs ys → Paired R zs ws → Paired R (xs ++ zs) (ys ++ ws)
  | _, _, _, _, .nil, h => h
  | _, _, _, _, .cons a b, h => .cons a (paired_app b h)
/-! ### a call of an instance, its reading without the context -/
def tCallP (C : Addr) (sp : Sp) (tf : TE) (t : TA) : TE := fun σ H Q => tf σ H fun y H1 => ∃ a, y = V.ref a ∧ t σ H1 fun vs H2 => (∃ dx fs, H2 a = some (.ins C dx fs)) ∧ sp (V.ref a :: vs) H2 Q E0
theorem pe_callP {X : Cx} {C g : Addr} {fd : FuncData} {ps : List Str} {sp : Sp} {k : Nat} {fe e : Expr} {es : List Expr} {pos : Pos} {tf : TE} {t : TA} (hf : PE X fe tf) (c : StX.CallO X.K C g) (F : FnOk X.prog X.w X.K X.mg X.base CX0 k g fd ps sp)
    (hb : Binds X.K fd ps []) (hr : Room k X.A) (ha : PA X (e :: es) t)
    (ht : eval (.Call fe (e :: es) [] pos) X.env = (do callWith pos (← eval fe X.env) [] (backTo pos (starEach (e :: es) X.env)) (backToKw pos (keywordEach [] X.env))) := by rfl)
    (he : starEach (e :: es) X.env = (false, eval e X.env) :: starEach es X.env := by rfl) (hpl : (backTo pos (starEach es X.env)).any (·.1) = false := by rfl) : PE X (.Call fe (e :: es) [] pos) (tCallP C sp tf t) := by
  have G := F.raw hb .nil
  refine ⟨fun pins s σ H Q I h => ?_⟩
  rw [ht]
  refine wpAny_bind (thn (hf.run pins s σ H _ I h) fun u s1 hu => ?_)
  obtain ⟨y, H1, I1, ry, a, ey, q⟩ := hu
  subst ey
  obtain rfl : u = Value.ref a := ry
  refine StX.callO_with (thn (ha.run pos pins s1 σ H1 _ I1 q) fun us s2 hw => ?_) he hpl
  obtain ⟨vs, H2, I2, r, ⟨dx, fs, ea⟩, q2⟩ := hw
  obtain ⟨ox, od, J, hd⟩ := StX.insC_at I2 (.inr ⟨dx, fs, ea⟩)
  refine ⟨⟨C, ox, od, J, hd⟩, StX.run_callO c G hr pass0 I2 (.inr ⟨dx, fs, ea⟩) r ?_⟩
  show sp ((V.ref a :: vs) ++ []) H2 Q E0
  rw [List.append_nil]
  exact q2
def spHidR (K : PySem.W.Frag) (C : Addr) : Sp := fun vs H Q _ => ∃ (q : Addr) (z : Str) (D p : Addr) (rs : List Rule), vs = [.ref q, .str z, .ref D, .ref p] ∧ PotAt H q ∧ Deal K H D z rs ∧ RelayAt C H p z rs ∧
  ∀ H', PotAt H' q → But q H H' → Q (.bl true) H'
end FL
namespace FL
open PySem PySem.Spec PyProof.Rows L2
theorem key_sm {f : Bool} {o : Str} (h : Plain o) (l : o.length ≤ 40) : Sm 2000 (.tuple [.str (kd f), .str o]) := by
  have a0 := Sm.str (kd_plain f)
  rw [kd_len] at a0
  exact (Sm.tuple (k := 0) (SmL.cons a0 (Nat.le_refl _) (SmL.cons ((Sm.str h).mono (show _ ≤ 500 by omega)) (Nat.le_refl _) SmL.nil)) (by decide)).mono (by decide)
theorem any_take {α : Type} {l : List α} {j : Nat} {e : α} (f : α → Bool) (h : l[j]? = some e) : (l.take (j + 1)).any f = ((l.take j).any f || f e) := by
  rw [take_snoc h, List.any_append]
  simp
theorem drop_at {α : Type} {l : List α} {i : Nat} {r : α} (h : l[i]? = some r) : l.drop i = r :: l.drop (i + 1) := by
  obtain ⟨hi, e⟩ := List.getElem?_eq_some_iff.mp h
  rw [List.drop_eq_getElem_cons hi, e]
theorem Same.tups {H H' : Hp} (s : Same H H') : ∀ t a, H t = some (.tup a) → H' t = some (.tup a) := fun t a e => s t _ e
end FL
namespace FL
open PySem PySem.Spec PyProof.Rows L2
theorem make_one {C : Addr} {H : Hp} {G : Hp → Prop} {z : Str} {v : V} {rs : List Rule} {x dx : Addr} (hz : Abc z) (ra : RuArg H v rs) (ok : ∀ r ∈ rs, RuleOk z 40 r) (l : rs.length ≤ 400) (hx : H x = none) (hd : H dx = none) (hne : dx ≠ x)
    (k : ∀ H', RelayAt C H' x z rs → Same H H' → G H') : spInit C [.ref x, .str z, v] (upd (upd H dx (.own x)) x (.ins C dx [])) (fun v H3 => v = .non ∧ G H3) E0 := by
  have s2 : Same H (upd (upd H dx (.own x)) x (.ins C dx [])) := ((Same.refl H).upd hd).upd hx
  refine ⟨x, dx, z, v, rs, rfl, upd_same, hz, ?_, ok, l, fun H' ra' rel _ b => ⟨rfl, k H' rel.at_ fun c o e => b c o (s2 c o e) (ne_of_none e hx)⟩⟩
  obtain ⟨a, xs, t, rfl, ea, hrs⟩ := ra
  exact ⟨a, xs, t, rfl, s2 _ _ ea, Same.rules s2 hrs⟩
end FL
namespace FL
open PySem PySem.Spec PyProof.Rows L2
theorem void_ok {z : Str} : RuleOk z 40 ⟨true, Str.ofString "", Str.ofString ""⟩ := by
  have e0 : (Str.ofString "").cps.toList = [] := by decide +kernel
  have l0 : (Str.ofString "").length = 0 := by decide +kernel
  have o : Over z (Str.ofString "") := fun c hc => by
    rw [e0] at hc
    cases hc
  exact ⟨o, by show (Str.ofString "").length ≤ 40; omega, o, by show (Str.ofString "").length ≤ 40; omega⟩
/-- three relays that turn each line as these rules do -/
structure Mate (C : Addr) (H : Hp) (x : Addr) (z : Str) (rs : List Rule) : Prop where
  ex : ∃ L, RelayAt C H x z L ∧ (∀ r ∈ L, r.old.length ≤ 40 ∧ r.new.length ≤ 1000) ∧ ∀ y, turn L y = turn rs y
theorem Mate.same {C : Addr} {H H' : Hp} {x : Addr} {z : Str} {rs : List Rule} (m : Mate C H x z rs) (s : Same H H') : Mate C H' x z rs := by
  obtain ⟨L, a, b, c⟩ := m.ex
  exact ⟨L, a.same s, b, c⟩
theorem ok_lens {z : Str} {rs : List Rule} (h : ∀ r ∈ rs, RuleOk z 40 r) : ∀ r ∈ rs, r.old.length ≤ 40 ∧ r.new.length ≤ 1000 := fun r hr => ⟨(h r hr).o2, Nat.le_trans (h r hr).n2 (by decide)⟩
end FL
namespace FL
open PySem PySem.Spec PyProof.Rows L2
theorem RelayAt.updL {C C' : Addr} {H : Hp} {p M a d : Addr} {f : List (Str × V)} {z : Str} {rs : List Rule} {vs ws : List V} (h : RelayAt C H p z rs) (hM : H M = some (.lst (.ref a :: vs))) (ha : H a = some (.ins C' d f)) : RelayAt C (upd H M (.lst ws)) p z rs := by
  obtain ⟨dx, ra, ia, xs, h1, h2, h3, kvs, h4, h5, h6⟩ := h
  have tp : ∀ t b, H t = some (.tup b) → upd H M (.lst ws) t = some (.tup b) := fun t b e => by
    rw [upd_ne (ne_of e hM (by intro q; cases q))]
    exact e
  refine ⟨dx, ra, ia, xs, ?_, ?_, RulesAt.imp h3 tp, kvs, ?_, h5, h6.imp tp⟩
  · rw [upd_ne (ne_of h1 hM (by intro q; cases q))]
    exact h1
  · have n : ra ≠ M := fun e => by
      subst e
      rw [hM] at h2
      cases h2
      cases h3 with
      | cons x _ =>
        obtain ⟨t, q, g⟩ := x
        cases q
        rw [ha] at g
        cases g
    rw [upd_ne n]
    exact h2
  · rw [upd_ne (ne_of h4 hM (by intro q; cases q))]
    exact h4
end FL
namespace FL
open PySem PySem.Spec PyProof.Rows L2
theorem make_oneR {C : Addr} {H : Hp} {G : Hp → Prop} {z : Str} {v : V} {rs : List Rule} {x dx : Addr} (hz : Abc z) (ra : RuArg H v rs) (ok : ∀ r ∈ rs, RuleOk z 40 r) (l : rs.length ≤ 400) (hx : H x = none) (hd : H dx = none) (hne : dx ≠ x)
    (k : ∀ (H' : Hp) (ra : Addr), RelayR C H' x z rs ra → H ra = none → Same H H' → G H') : spInit C [.ref x, .str z, v] (upd (upd H dx (.own x)) x (.ins C dx [])) (fun v H3 => v = .non ∧ G H3) E0 := by
  have s2 : Same H (upd (upd H dx (.own x)) x (.ins C dx [])) := ((Same.refl H).upd hd).upd hx
  refine ⟨x, dx, z, v, rs, rfl, upd_same, hz, ?_, ok, l, fun H' ra' rel hn b => ⟨rfl, k H' ra' rel (s2.none hn) fun c o e => b c o (s2 c o e) (ne_of_none e hx)⟩⟩
  obtain ⟨a, xs, t, rfl, ea, hrs⟩ := ra
  exact ⟨a, xs, t, rfl, s2 _ _ ea, Same.rules s2 hrs⟩
end FL
namespace FL
open PySem PySem.Spec PyProof.Rows L2
/-! ### lists of rules, gathered -/
def RL (H : Hp) (z : Str) (a : Addr) : Prop := ∃ xs rs, H a = some (.lst xs) ∧ RulesAt H xs rs ∧ (∀ r ∈ rs, RuleOk z 40 r) ∧ rs.length ≤ 400
theorem RL.same {H H' : Hp} {z : Str} {a : Addr} (h : RL H z a) (s : Same H H') : RL H' z a := by
  obtain ⟨xs, rs, h1, h2, h3, h4⟩ := h
  exact ⟨xs, rs, s _ _ h1, Same.rules s h2, h3, h4⟩
theorem RL.updS {H : Hp} {z : Str} {a S : Addr} {ss ws : List V} (h : RL H z a) (hS : H S = some (.lst ss)) (n : a ≠ S) : RL (upd H S (.lst ws)) z a := by
  obtain ⟨xs, rs, h1, h2, h3, h4⟩ := h
  refine ⟨xs, rs, by rw [upd_ne n]; exact h1, RulesAt.imp h2 fun t b e => ?_, h3, h4⟩
  rw [upd_ne (ne_of e hS (by intro q; cases q))]
  exact e
structure Sm1 (H : Hp) (S : Addr) (z : Str) (As : List Addr) : Prop where
  at_ : H S = some (.lst (As.map V.ref))
  all : ∀ a ∈ As, a ≠ S ∧ RL H z a
theorem Sm1.same {H H' : Hp} {S : Addr} {z : Str} {As : List Addr} (h : Sm1 H S z As) (s : Same H H') : Sm1 H' S z As :=
  ⟨s _ _ h.at_, fun a ha => ⟨(h.all a ha).1, (h.all a ha).2.same s⟩⟩
theorem Sm1.add {H : Hp} {S a : Addr} {z : Str} {As : List Addr} (h : Sm1 H S z As) (ha : RL H z a) (n : a ≠ S) : Sm1 (upd H S (.lst (As.map V.ref ++ [.ref a]))) S z (As ++ [a]) := by
  refine ⟨by rw [upd_same, List.map_append]; rfl, fun b hb => ?_⟩
  rcases List.mem_append.mp hb with hb | hb
  · exact ⟨(h.all b hb).1, (h.all b hb).2.updS h.at_ (h.all b hb).1⟩
  · rw [List.mem_singleton.mp hb]
    exact ⟨n, ha.updS h.at_ n⟩
theorem paired_take {α β : Type} {R : α → β → Prop} : ∀ {xs : List α} {ys : List β}, Paired R xs ys → ∀ n, Paired R (xs.take n) (ys.take n)
  | _, _, .nil, n => by rw [List.take_nil, List.take_nil]; exact .nil
  | _, _, .cons a b, 0 => .nil
  | _, _, .cons a b, n + 1 => .cons a (paired_take b n)
theorem paired_drop {α β : Type} {R : α → β → Prop} : ∀ {xs : List α} {ys : List β}, Paired R xs ys → ∀ n, Paired R (xs.drop n) (ys.drop n)
  | _, _, .nil, n => by rw [List.drop_nil, List.drop_nil]; exact .nil
  | _, _, .cons a b, 0 => .cons a b
  | _, _, .cons a b, n + 1 => paired_drop b n
theorem paired_rev {α β : Type} {R : α → β → Prop} : ∀ {xs : List α} {ys : List β}, Paired R xs ys → Paired R xs.reverse ys.reverse
  | _, _, .nil => .nil
  | _, _, .cons a b => by
    rw [List.reverse_cons, List.reverse_cons]
    exact paired_snoc (paired_rev b) a
/-- a slice of rules is one -/
theorem cut_rules {H : Hp} {xs : List V} {rs : List Rule} (h : RulesAt H xs rs) (lo hi : Option Int) : ∃ ts, RulesAt H (cutV xs lo hi) ts ∧ (∀ t ∈ ts, t ∈ rs) ∧ ts.length ≤ rs.length := by
  refine ⟨(rs.drop (HT.sIx xs.length 0 lo)).take (HT.sIx xs.length xs.length hi - HT.sIx xs.length 0 lo), paired_take (paired_drop h _) _, fun t ht => List.mem_of_mem_drop (List.mem_of_mem_take ht), ?_⟩
  rw [List.length_take, List.length_drop]
  omega
def spEqual (K : PySem.W.Frag) (C : Addr) : Sp := fun vs H Q _ => ∃ (q : Addr) (z : Str) (D p : Addr) (rs : List Rule), vs = [.ref q, .str z, .ref D, .ref p] ∧ Deal K H D z rs ∧ RelayAt C H p z rs ∧
  ∀ H', Same H H' → Q (.bl true) H'
theorem rp_ok {z : Str} {rs : List Rule} (az : Abc z) (h : ∀ r ∈ rs, RuleOk z 40 r) : RP 40 rs := fun r hr => ⟨az.plain (h r hr).o1, az.plain (h r hr).n1, (h r hr).o2, (h r hr).n2⟩
theorem bools_sm (a b c : Bool) : Sm 100 (.list [.bool a, .bool b, .bool c]) :=
  (Sm.list (k := 0) (SmL.cons (Sm.bool a) (Nat.le_refl _) (SmL.cons (Sm.bool b) (Nat.le_refl _) (SmL.cons (Sm.bool c) (Nat.le_refl _) SmL.nil))) (by decide)).mono (by decide)
end FL
namespace FL
open PySem PySem.Spec PyProof.Rows L2
theorem comp_tail {H0 Hi : Hp} {C T : Addr} {ws : List V} {ts : List Rule} {r : Rule} (sj : Same H0 Hi) (hC0 : H0 C = none) (hC : Hi C = some (.lst ws)) (hw : RulesAt Hi ws ts) (hT : Hi T = none) :
    (upd Hi T (.tup (ruleV r))) C = some (.lst ws) ∧ Same H0 (upd (upd Hi T (.tup (ruleV r))) C (.lst (ws ++ [.ref T]))) ∧ RulesAt (upd (upd Hi T (.tup (ruleV r))) C (.lst (ws ++ [.ref T]))) (ws ++ [.ref T]) (ts ++ [r]) := by
  have n : C ≠ T := ne_of_none hC hT
  refine ⟨by rw [upd_ne n]; exact hC, (sj.upd (sj.none hT)).upd hC0, paired_snoc (RulesAt.imp hw fun t a e => ?_) ⟨T, rfl, ?_⟩⟩
  · rw [upd_ne (ne_of e hC (by intro q; cases q)), upd_ne (ne_of_none e hT)]
    exact e
  · rw [upd_ne (Ne.symm n), upd_same]
theorem map_take {α β : Type} {l : List α} {i : Nat} {x : α} (f : α → β) (h : l[i]? = some x) : (l.take (i + 1)).map f = (l.take i).map f ++ [f x] := by
  rw [take_snoc h, List.map_append]
  rfl
theorem void_rule {H : Hp} {T : Addr} {f : Bool} (h : H T = some (.tup [.str (kd f), .str (Str.ofString ""), .str (Str.ofString "")])) : RuleAt H (.ref T) ⟨f, Str.ofString "", Str.ofString ""⟩ := ⟨T, rfl, h⟩
theorem void_ok2 {z : Str} {f : Bool} : RuleOk z 40 ⟨f, Str.ofString "", Str.ofString ""⟩ := ⟨(void_ok (z := z)).o1, (void_ok (z := z)).o2, (void_ok (z := z)).n1, (void_ok (z := z)).n2⟩
end FL
namespace FL
open PySem PySem.Spec PyProof.Rows L2
def flipR (r : Rule) : Rule := ⟨!r.fr, r.old, r.new⟩
def newR (c : Nat) (r : Rule) : Rule := ⟨r.fr, r.old, r.new ++ ⟨#[c]⟩⟩
def oldR (c : Nat) (r : Rule) : Rule := ⟨r.fr, r.old ++ ⟨#[c]⟩, r.new⟩
theorem flip_ok {z : Str} {rs : List Rule} (h : ∀ r ∈ rs, RuleOk z 40 r) : ∀ r ∈ rs, RuleOk z 40 (flipR r) := fun r hr => ⟨(h r hr).o1, (h r hr).o2, (h r hr).n1, (h r hr).n2⟩
theorem new_ok {z : Str} {c : Nat} (hc : c ∈ z.cps.toList) {rs : List Rule} (h : ∀ r ∈ rs, RuleOk z 30 r) : ∀ r ∈ rs, RuleOk z 40 (newR c r) := fun r hr =>
  ⟨(h r hr).o1, Nat.le_trans (h r hr).o2 (by decide), over_app (h r hr).n1 (over_one hc), by
    show (r.new ++ ⟨#[c]⟩).length ≤ 40
    rw [len_app, len_one]
    have := (h r hr).n2
    omega⟩
theorem old_ok {z : Str} {c : Nat} (hc : c ∈ z.cps.toList) {rs : List Rule} (h : ∀ r ∈ rs, RuleOk z 30 r) : ∀ r ∈ rs, RuleOk z 40 (oldR c r) := fun r hr =>
  ⟨over_app (h r hr).o1 (over_one hc), by
    show (r.old ++ ⟨#[c]⟩).length ≤ 40
    rw [len_app, len_one]
    have := (h r hr).o2
    omega, (h r hr).n1, Nat.le_trans (h r hr).n2 (by decide)⟩
end FL
namespace FL
open PySem PySem.Spec PyProof.Rows L2
theorem Deal.updL {K : PySem.W.Frag} {H : Hp} {D L : Addr} {z : Str} {rs : List Rule} {vs ws : List V} (d : Deal K H D z rs) (hL : H L = some (.lst vs)) (n : D ≠ L) : Deal K (upd H L (.lst ws)) D z rs := by
  obtain ⟨xs, h1, h2⟩ := d.ex
  refine ⟨d.az, ⟨xs, by rw [upd_ne n]; exact h1, RulesAt.imp h2 fun t b e => ?_⟩, d.ok, d.le⟩
  rw [upd_ne (ne_of e hL (by intro q; cases q))]
  exact e
def spRight : Sp := fun vs H Q _ => ∃ q : Addr, vs = [.ref q] ∧ PotAt H q ∧ ∀ H', PotAt H' q → But q H H' → Q (.bl true) H'
def spLaw (K : PySem.W.Frag) : Sp := fun vs H Q _ => ∃ (a : Addr) (ns : List Int), vs = [.ref a] ∧ SqL K H a (ns.map V.int) ∧ ns.length ≤ 63 ∧ ∀ H', Q (.bl true) H'
theorem repr_bare (z : Str) : reprR z [] = (Str.ofString "Relay(" ++ (PyData.str z).shown) ++ Str.ofString ", [])" := by
  rw [reprR_eq]
  have e : (PyData.list (([] : List Rule).map ruleD)).shown = Str.ofString "[]" := by decide +kernel
  rw [e]
  generalize Str.ofString "Relay(" ++ (PyData.str z).shown = x
  apply Str_ext
  have e2 : (Str.ofString ", ").cps.toList ++ ((Str.ofString "[]").cps.toList ++ (Str.ofString ")").cps.toList) = (Str.ofString ", [])").cps.toList := by decide +kernel
  rw [Str.cps_append, Str.cps_append, Str.cps_append, Str.cps_append, Array.toList_append, Array.toList_append, Array.toList_append, Array.toList_append, ← e2, List.append_assoc, List.append_assoc]
theorem all_true : ∀ n : Nat, (List.replicate n true).all id = true
  | 0 => rfl
  | n + 1 => by
    rw [List.replicate_succ]
    exact all_true n
end FL
namespace FL
open PySem PySem.Spec PyProof.Rows L2
/-! ### where a turning of lines is even -/
abbrev Lns := List Nat
abbrev ls (y : Str) : Lns := y.cps.toList
abbrev st (l : Lns) : Str := ⟨l.toArray⟩
theorem ls_st (l : Lns) : ls (st l) = l := rfl
theorem st_ls (y : Str) : st (ls y) = y := Str_ext rfl
theorem ls_inj {a b : Str} (h : ls a = ls b) : a = b := Str_ext h
theorem ls_app (a b : Str) : ls (a ++ b) = ls a ++ ls b := by
  show (a ++ b).cps.toList = _
  rw [Str.cps_append, Array.toList_append]
theorem cut_take (y : Str) (n : Nat) : ls (cutS y none (some (n : Int))) = (ls y).take n := by
  show ((y.cps.toList.drop (HT.sIx y.length 0 none)).take (HT.sIx y.length y.length (some ((n : Nat) : Int)) - HT.sIx y.length 0 none)).toArray.toList = _
  rw [HT.sIx_nat, HT.sIx_none]
  show (List.drop 0 y.cps.toList).take (min n y.length - 0) = _
  rw [List.drop_zero, Nat.sub_zero, str_len]
  by_cases h : n ≤ y.cps.toList.length
  · rw [Nat.min_eq_left h]
  · rw [Nat.min_eq_right (by omega), List.take_of_length_le (Nat.le_refl _), List.take_of_length_le (show (ls y).length ≤ n by show y.cps.toList.length ≤ n; omega)]
theorem cut_drop (y : Str) (n : Nat) : ls (cutS y (some (n : Int)) none) = (ls y).drop n := by
  show ((y.cps.toList.drop (HT.sIx y.length 0 (some ((n : Nat) : Int)))).take (HT.sIx y.length y.length none - HT.sIx y.length 0 (some ((n : Nat) : Int)))).toArray.toList = _
  rw [HT.sIx_nat, HT.sIx_none]
  show (List.drop (min n y.length) y.cps.toList).take (y.length - min n y.length) = _
  rw [str_len]
  by_cases h : n ≤ y.cps.toList.length
  · rw [Nat.min_eq_left h, List.take_of_length_le (by rw [List.length_drop]; omega)]
  · rw [Nat.min_eq_right (by omega), List.drop_of_length_le (Nat.le_refl _), List.drop_of_length_le (show (ls y).length ≤ n by show y.cps.toList.length ≤ n; omega), List.take_nil]
/-- the turning by rules, on lists -/
def tL : List Rule → Lns → Lns
  | [], l => l
  | r :: rs, l => match r.fr with
    | true => if ls r.old <+: l then ls r.new ++ l.drop (ls r.old).length else tL rs l
    | false => if l = ls r.old then ls r.new else tL rs l
theorem fits_front {r : Rule} {y : Str} (h : r.fr = true) : fits r y = true ↔ ls r.old <+: ls y := by
  unfold fits
  rw [h]
  show decide (cutS y none (some (r.old.length : Int)) = r.old) = true ↔ _
  rw [decide_eq_true_eq]
  constructor
  · intro e
    have e2 : ls (cutS y none (some (r.old.length : Int))) = ls r.old := by rw [e]
    rw [cut_take] at e2
    rw [← e2]
    exact List.take_prefix _ _
  · intro e
    apply ls_inj
    rw [cut_take]
    have e3 := List.prefix_iff_eq_take.mp e
    rw [str_len]
    exact e3.symm
theorem turn_list : ∀ (rs : List Rule) (y : Str), ls (turn rs y) = tL rs (ls y)
  | [], _ => rfl
  | r :: rs, y => by
    show ls (if fits r y = true then turnR r y else turn rs y) = _
    unfold tL
    cases e : r.fr with
    | true =>
      simp only
      by_cases h : ls r.old <+: ls y
      · rw [if_pos h, if_pos ((fits_front e).mpr h)]
        unfold turnR
        rw [e]
        show ls (r.new ++ cutS y (some (r.old.length : Int)) none) = _
        rw [ls_app, cut_drop, str_len]
      · rw [if_neg h, if_neg (fun q => h ((fits_front e).mp q)), turn_list rs y]
    | false =>
      simp only
      have hf : fits r y = decide (y = r.old) := by unfold fits; rw [e]
      rw [hf]
      by_cases h : y = r.old
      · rw [if_pos (by simpa using h), if_pos (by rw [h])]
        unfold turnR
        rw [e]
      · rw [if_neg (by simpa using h), if_neg (fun q => h (ls_inj q)), turn_list rs y]
/-- rules that ask for no beginning u turn u and what stands behind it alike -/
theorem tL_app {u s : Lns} : ∀ {rs : List Rule}, (∀ r ∈ rs, ¬ u <+: ls r.old) → tL rs (u ++ s) = tL rs u ++ s
  | [], _ => rfl
  | r :: rs, h => by
    have h1 := h r List.mem_cons_self
    have ih := tL_app (s := s) fun r' hr' => h r' (List.mem_cons_of_mem _ hr')
    unfold tL
    cases e : r.fr with
    | true =>
      simp only
      by_cases hp : ls r.old <+: u
      · have hp2 : ls r.old <+: u ++ s := hp.trans (List.prefix_append _ _)
        rw [if_pos hp, if_pos hp2, List.append_assoc, List.drop_append_of_le_length hp.length_le]
      · have hp2 : ¬ ls r.old <+: u ++ s := fun q => by
          rcases Nat.le_total (ls r.old).length u.length with hl | hl
          · exact hp (List.prefix_of_prefix_length_le q (List.prefix_append _ _) hl)
          · exact h1 (List.prefix_of_prefix_length_le (List.prefix_append _ _) q hl)
        rw [if_neg hp, if_neg hp2, ih]
    | false =>
      simp only
      have n1 : ¬ u = ls r.old := fun q => h1 (by rw [q]; exact List.prefix_rfl)
      have n2 : ¬ u ++ s = ls r.old := fun q => h1 (by rw [← q]; exact List.prefix_append _ _)
      rw [if_neg n1, if_neg n2, ih]
section
variable (z : Lns) (F : Lns → Lns)
/-- even at u, for what stands behind of the signs z -/
def Evn (u : Lns) : Prop := ∀ s, (∀ c ∈ s, c ∈ z) → F (u ++ s) = F u ++ s
variable {z F}
theorem Evn.one {u : Lns} (h : Evn z F u) {c : Nat} (hc : c ∈ z) : F (u ++ [c]) = F u ++ [c] := h [c] fun d hd => by rw [List.mem_singleton.mp hd]; exact hc
theorem Evn.down {u s : Lns} (h : Evn z F u) (hs : ∀ c ∈ s, c ∈ z) : Evn z F (u ++ s) := fun t ht => by
  rw [List.append_assoc, h (s ++ t) (fun c hc => (List.mem_append.mp hc).elim (hs c) (ht c)), h s hs, List.append_assoc]
theorem evn_step {u : Lns} : Evn z F u ↔ ∀ c ∈ z, Evn z F (u ++ [c]) ∧ F (u ++ [c]) = F u ++ [c] := by
  constructor
  · intro h c hc
    exact ⟨h.down fun d hd => by rw [List.mem_singleton.mp hd]; exact hc, h.one hc⟩
  · intro h s hs
    cases s with
    | nil => rw [List.append_nil, List.append_nil]
    | cons c s =>
      have hc := h c (hs c List.mem_cons_self)
      have e := hc.1 s fun d hd => hs d (List.mem_cons_of_mem _ hd)
      rw [List.append_assoc] at e
      show F (u ++ ([c] ++ s)) = F u ++ (c :: s)
      rw [e, hc.2, List.append_assoc]
      rfl
/-- a cell's line -/
def Cell (z : Lns) (F : Lns → Lns) (l : Lns) : Prop := l = [] ∨ ¬ Evn z F l ∨ ∃ u c, c ∈ z ∧ l = u ++ [c] ∧ ¬ Evn z F u
theorem Evn.congr {G : Lns → Lns} {u : Lns} (hu : ∀ c ∈ u, c ∈ z) (e : ∀ l, (∀ c ∈ l, c ∈ z) → F l = G l) : Evn z F u ↔ Evn z G u := by
  constructor
  · intro h s hs
    rw [← e _ (fun c hc => (List.mem_append.mp hc).elim (hu c) (hs c)), ← e u hu]
    exact h s hs
  · intro h s hs
    rw [e _ (fun c hc => (List.mem_append.mp hc).elim (hu c) (hs c)), e u hu]
    exact h s hs
/-- each line is that of a whole cell, or stands behind a front cell's -/
theorem cell_of : ∀ (n : Nat) (l : Lns), l.length = n → (∀ c ∈ l, c ∈ z) → ¬ Evn z F l ∨ ∃ u s, l = u ++ s ∧ Evn z F u ∧ Cell z F u
  | 0, l, h, _ => by
    have e : l = [] := List.eq_nil_of_length_eq_zero h
    by_cases hv : Evn z F l
    · exact .inr ⟨l, [], by rw [List.append_nil], hv, .inl e⟩
    · exact .inl hv
  | n + 1, l, h, hz => by
    by_cases hv : Evn z F l
    · right
      have hne : l ≠ [] := fun e => by rw [e] at h; cases h
      obtain ⟨u, c, rfl⟩ : ∃ u c, l = u ++ [c] := ⟨l.dropLast, l.getLast hne, (List.dropLast_concat_getLast hne).symm⟩
      have hc : c ∈ z := hz c (List.mem_append_right _ (List.mem_singleton.mpr rfl))
      rcases cell_of n u (by rw [List.length_append] at h; exact Nat.succ.inj h) (fun d hd => hz d (List.mem_append_left _ hd)) with q | ⟨u', s, e, h1, h2⟩
      · exact ⟨u ++ [c], [], by rw [List.append_nil], hv, .inr (.inr ⟨u, c, hc, rfl, q⟩)⟩
      · exact ⟨u', s ++ [c], by rw [e, List.append_assoc], h1, h2⟩
    · exact .inl hv
/-- two turnings that agree at the cells of both agree at each line -/
theorem agree {G : Lns → Lns} (h : ∀ l, (∀ c ∈ l, c ∈ z) → Cell z F l ∨ Cell z G l → F l = G l) : ∀ (n : Nat) (l : Lns), l.length = n → (∀ c ∈ l, c ∈ z) → F l = G l
  | 0, l, e, hz => h l hz (.inl (.inl (List.eq_nil_of_length_eq_zero e)))
  | n + 1, l, e, hz => by
    have hne : l ≠ [] := fun q => by rw [q] at e; cases e
    obtain ⟨u, c, rfl⟩ : ∃ u c, l = u ++ [c] := ⟨l.dropLast, l.getLast hne, (List.dropLast_concat_getLast hne).symm⟩
    have hc : c ∈ z := hz c (List.mem_append_right _ (List.mem_singleton.mpr rfl))
    have hu : ∀ d ∈ u, d ∈ z := fun d hd => hz d (List.mem_append_left _ hd)
    by_cases h1 : Evn z F u
    · by_cases h2 : Evn z G u
      · rw [h1.one hc, h2.one hc, agree h n u (by rw [List.length_append] at e; exact Nat.succ.inj e) hu]
      · exact h _ hz (.inr (.inr (.inr ⟨u, c, hc, rfl, h2⟩)))
    · exact h _ hz (.inl (.inr (.inr ⟨u, c, hc, rfl, h1⟩)))
end
end FL
namespace FL
open PySem PySem.Spec PyProof.Rows L2
/-! ### sorted(lines, key=f), f a def of one's own that tells (length, line) -/
def lineKey (z : V × Str) : PyData := .tuple [.int ((z.2.length : Nat) : Int), .str z.2]
def keyT (b : Str) : List V := [.int ((b.length : Nat) : Int), .str b]
def sortL (zs : List (V × Str)) : List (V × Str) := zs.mergeSort (PySem.W.dataLe false lineKey)
/-- an object of ours that no one tracks -/
structure Own (X : Cx) (pins : List (Addr × Obj)) (b : Addr) : Prop where
  new : b ∈ X.ex ∨ X.s_0.heap.objs.size ≤ b
  loc : b ≠ X.env.locals
  cel : ∀ x c, X.env.cells.lookup x = some c → c ≠ b
  pin : ∀ p ∈ X.pn ++ pins, p.1 ≠ b
  nfs : b ∉ X.fs
section
variable {X : Cx} {pins : List (Addr × Obj)} {σ : L2.St} {H : Hp} {s : Shared}
theorem Own.of (I : Inv X pins σ H s) {b : Addr} (h : s.heap.objs.size ≤ b) : Own X pins b := by
  refine ⟨.inr (Nat.le_trans I.sz h), fun e => ?_, fun x c e z => ?_, fun p hp e => ?_, I.nofs h⟩
  · have q := I.lt
    rw [← e] at q
    exact Nat.lt_irrefl _ (Nat.lt_of_lt_of_le q h)
  · obtain ⟨v, o, ho, _⟩ := I.cell x c e
    have q := Heap.lt_size ho
    rw [z] at q
    exact Nat.lt_irrefl _ (Nat.lt_of_lt_of_le q h)
  · have q := Heap.lt_size (I.pin p hp).1
    rw [e] at q
    exact Nat.lt_irrefl _ (Nat.lt_of_lt_of_le q h)
theorem Own.cons {b c : Addr} {o : Obj} (h : Own X pins b) (n : c ≠ b) : Own X ((c, o) :: pins) b :=
  ⟨h.new, h.loc, h.cel, fun p hp => by
    rcases List.mem_append.mp hp with hp | hp
    · exact h.pin p (List.mem_append_left _ hp)
    · rcases List.mem_cons.mp hp with rfl | hp
      · exact n
      · exact h.pin p (List.mem_append_right _ hp), h.nfs⟩
theorem drop_pin {q : Addr × Obj} (I : Inv X (q :: pins) σ H s) : Inv X pins σ H s :=
  I.pins_of fun p hp => I.pin p (List.mem_append_right _ (List.mem_cons_of_mem _ hp))
theorem put_pin {b : Addr} {o : Obj} (I : Inv X pins σ H s) (w : Own X pins b) (e : s.heap.get? b = some o) (n : H b = none) (nd : ∀ v, o.data ≠ .cell v) : Inv X ((b, o) :: pins) σ H s := by
  refine I.pins_of fun p hp => ?_
  rcases List.mem_cons.mp hp with rfl | hp
  · exact ⟨e, n, w.loc, w.nfs, nd⟩
  · exact I.pin p (List.mem_append_right _ hp)
theorem re_pin {b : Addr} {o o' : Obj} {h' : Heap} {t' : Nat} (I : Inv X ((b, o) :: pins) σ H s) (w : Own X pins b) (hs : Heap.SameBut b s.heap h') (e : h'.get? b = some o') (nd : ∀ v, o'.data ≠ .cell v) :
    Inv X ((b, o') :: pins) σ H { s with heap := h', toks := t' } := by
  have n : H b = none := (I.pin (b, o) (List.mem_append_right _ List.mem_cons_self)).2.1
  have I1 : Inv X pins σ H { s with heap := h', toks := t' } := (drop_pin I).turned (fun c u hc q => (hs.2 c hc).trans q) n w.loc w.new w.cel w.pin
  exact put_pin I1 w e n nd
theorem seq_nd {t : String} {xs : Array Value} {n : Nat} : ∀ v, (seqObj t xs n).data ≠ .cell v := fun _ e => by cases e

/-- what a call f(x) must do: a new tuple (length, line), all else as it was -/
def KeyTurn (X : Cx) (A' : Around) (f : Value) (H : Hp) (σ : L2.St) (zs : List (V × Str)) : Prop :=
  ∀ (pins : List (Addr × Obj)) (s : Shared) (Hi : Hp) (u : Value) (z : V × Str), z ∈ zs → Inv X pins σ Hi s → (∀ b o, H b = some o → Hi b = some o) → RelV z.1 u →
    wpAny (model X.prog X.w) A' (call f [u]) (EP X pins σ fun v H' => ∃ p, v = .ref p ∧ Hi p = none ∧ H' = upd Hi p (.tup (keyT z.2))) (fun _ _ => False) s
theorem key_reads (I : Inv X pins σ H s) {p : Addr} {b : Str} (h : H p = some (.tup (keyT b))) : ∃ as, Reads s.heap (.ref p) (.tuple [.int ((b.length : Nat) : Int), .str b]) as :=
  Dp.reads I _ (.ref p) (.ref p) (.tup (SqT.of h) (.cons (.int _) (.cons (.str _) .nil))) rfl
theorem each_mono_mem {α β : Type} {R R' : α → β → Prop} {as : List α} {bs : List β} (h : PySem.W.EachIs R as bs) (k : ∀ a b, R a b → R' a b) : PySem.W.EachIs R' as bs := h.mono k
theorem hide1 {h : Heap} {a kS : Addr} : PySem.W.KeepsBut a (PySem.W.hideAll h [kS]) h := fun _ _ _ e => PySem.W.of_hideAll _ e
theorem alike_keys (zs : List (V × Str)) : PySem.W.AllAlike (zs.map lineKey) := PySem.W.AllAlike.of fun b b' => by simp [PySem.W.alike, PySem.W.alikeAll, lineKey]
theorem sortable_keys (zs : List (V × Str)) : PySem.W.Sortable (zs.map lineKey) := PySem.W.Sortable.tuples fun _ => ⟨_, _, rfl⟩
theorem depth_key (z : V × Str) : (lineKey z).depth = 1 := by simp [lineKey, PyData.depth, PyData.depthAll]
theorem vals_each : ∀ {zs : List (V × Str)} {us : List Value}, PySem.W.EachIs (fun u (z : V × Str) => RelV z.1 u) us zs → Vals (zs.map Prod.fst) us
  | _, _, .nil => .nil
  | _, _, .cons h t => .cons h (vals_each t)
theorem each_vals : ∀ {zs : List (V × Str)} {us : List Value}, Vals (zs.map Prod.fst) us → PySem.W.EachIs (fun u (z : V × Str) => RelV z.1 u) us zs
  | [], _, h => by cases h; exact .nil
  | _ :: _, _, h => by
    cases h with
    | cons h t => exact .cons h (each_vals t)
theorem key_rest {A' : Around} {f : Value} {a kS : Addr} {e1 : Nat} {us : List Value} {zs : List (V × Str)} {E : Value → Shared → Prop} {P : PySem.Fin → Shared → Prop}
    (I : Inv X ((kS, seqObj "list" #[] 0) :: (a, seqObj "list" #[] e1) :: pins) σ H s) (wa : Own X pins a) (wk : Own X pins kS) (hka : kS ≠ a) (r : Vals (zs.map Prod.fst) us) (hZ : zs.length ≤ sizeLine)
    (hu : A'.units + 1 < cLine) (turn : KeyTurn X A' f H σ zs)
    (h : ∀ (s' : Shared) (H' : Hp), Inv X pins σ H' s' → (∀ b o, H b = some o → H' b = some o) → H a = none → H' a = some (.lst ((sortL zs).map Prod.fst)) → P (.done (.ret .none)) s') :
    wpAny (model X.prog X.w) A' (ksk_rest a f false us.toArray e1 (.ref kS)) P E s := by
  have hl : us.length = zs.length := by rw [← r.length, List.length_map]
  have na0 : H a = none := (I.pin (a, seqObj "list" #[] e1) (List.mem_append_right _ (List.mem_cons_of_mem _ List.mem_cons_self))).2.1
  unfold ksk_rest
  refine wpAny_bind (wpAny_rule ?_)
  first
    | rw [List.forIn_toArray]
    | (rw [← Array.forIn_toList]; simp only [List.toList_toArray])
    | rw [← Array.forIn_toList]
  refine wpAny_bind (ksk_fold (fun i s' => ∃ Hi kA e, Inv X ((kS, seqObj "list" kA e) :: (a, seqObj "list" #[] e1) :: pins) σ Hi s' ∧ (∀ b o, H b = some o → Hi b = some o)
      ∧ PySem.W.EachIs (fun (v : Value) (z : V × Str) => ∃ p, v = .ref p ∧ Hi p = some (.tup (keyT z.2))) kA.toList (zs.take i)) us 0 s
    ⟨H, #[], 0, I, fun _ _ e => e, by rw [List.take_zero]; exact .nil⟩ ?step ?done)
  case step =>
    rintro j x s' hx ⟨Hi, kA, e, I', kp, ek⟩
    simp only [Nat.zero_add] at ek ⊢
    have hj : j < us.length := (List.getElem?_eq_some_iff.mp hx).1
    have hjz : j < zs.length := by omega
    have hz : zs[j]? = some zs[j] := List.getElem?_eq_getElem hjz
    have hxf : (zs.map Prod.fst)[j]? = some zs[j].1 := by rw [List.getElem?_map, hz]; rfl
    obtain ⟨u', hu', ru⟩ := r.get hxf
    rw [hx] at hu'
    obtain rfl : x = u' := Option.some.inj hu'
    refine wpAny_bind (wpAny_attempt (wpAny_mono (turn _ s' Hi x zs[j] (List.getElem_mem hjz) I' kp ru) (fun v s'' he => ?_) fun _ _ hF => hF.elim))
    obtain ⟨v', H'', I2, rv, p, rfl, np, rfl⟩ := he
    obtain rfl : v = Value.ref p := rv
    try dsimp only
    have pk := I2.pin (kS, seqObj "list" kA e) (List.mem_append_right _ List.mem_cons_self)
    have s1 := Heap.SameBut.update s''.heap kS (Obj.mapSeq (·.push (Value.ref p)))
    obtain ⟨c2, hc2⟩ : ∃ c2, (s''.heap.update kS (Obj.mapSeq (·.push (Value.ref p)))).get? kS = some (seqObj "list" (kA.push (Value.ref p)) c2) := ⟨_, get?_update_seq pk.1 (·.push (Value.ref p))⟩
    have hz2 : kA.size ≤ sizeLine := by
      have h1 := ek.length
      rw [Array.length_toList, List.length_take] at h1
      omega
    refine wpAny_bind (listUpdate_at pk.1 rfl ?_ hz2 (Nat.le_trans (Nat.le_of_eq (Array.size_push ..)) (Nat.succ_le_succ hz2)))
    have kp2 : ∀ b o, Hi b = some o → (upd Hi p (.tup (keyT zs[j].2))) b = some o := fun b o q => by rw [upd_ne (ne_of_none q np)]; exact q
    refine wpAny_pure ⟨rfl, upd Hi p (.tup (keyT zs[j].2)), kA.push (.ref p), c2, re_pin (t' := s''.toks) I2 (wk.cons hka.symm) s1 hc2 seq_nd, fun b o q => kp2 b o (kp b o q), ?_⟩
    have e2 : zs.take (j + 1) = zs.take j ++ [zs[j]] := by rw [List.take_add_one, hz]; simp
    have e3 : (kA.push (Value.ref p)).toList = kA.toList ++ [Value.ref p] := by simp
    rw [e2, e3]
    exact PySem.W.each_snoc (R := fun (v : Value) (z : V × Str) => ∃ q, v = .ref q ∧ (upd Hi p (.tup (keyT zs[j].2))) q = some (.tup (keyT z.2))) ⟨p, rfl, upd_same⟩ (ek.mono fun _ _ ⟨q, e, hq⟩ => ⟨q, e, kp2 _ _ hq⟩)
  case done =>
    rintro s' ⟨Hi, kA, e, I', kp, ek⟩
    have e3 : zs.take (0 + us.length) = zs := List.take_of_length_le (by omega)
    rw [e3] at ek
    have pk := I'.pin (kS, seqObj "list" kA e) (List.mem_append_right _ List.mem_cons_self)
    have pa := I'.pin (a, seqObj "list" #[] e1) (List.mem_append_right _ (List.mem_cons_of_mem _ List.mem_cons_self))
    have ek' : PySem.W.EachIs (fun (v : Value) (z : V × Str) => ∃ as, Reads s'.heap v (lineKey z) as) kA.toList zs := ek.mono fun v z ⟨p, e, hp⟩ => by
      subst e
      exact key_reads I' hp
    have hk' : PySem.W.EachIs (fun v k => ∃ as, Reads s'.heap v k as) kA.toList (zs.map lineKey) := PySem.W.each_map (R := fun v k => ∃ as, Reads s'.heap v k as) lineKey ek'
    have hsz : kA.size = us.length := by
      have h1 := ek.length
      rw [Array.length_toList] at h1
      omega
    try dsimp only
    refine wpAny_bind (listItems_at pk.1 rfl ?_)
    refine PySem.W.keyH_end (κ := PySem.W.dataKind s'.heap (zs.map lineKey)) (h₁ := PySem.W.hideAll s'.heap [kS]) hide1 (PySem.W.hideAll_none _ List.mem_cons_self) pk.1 pa.1 hka
      (PySem.W.SortsAt.data hk' (alike_keys zs) (sortable_keys zs) (PySem.W.bound_map (A := A') fun z _ => by rw [depth_key]; exact hu)) hsz (by omega) fun h' tk c kp3 ha3 => ?_
    have eo : PySem.W.EachIs (fun u (z : V × Str) => RelV z.1 u) (PySem.W.sortVals (PySem.W.dataKind s'.heap (zs.map lineKey)) false kA.toList us) (sortL zs) :=
      PySem.W.keyedOut_each lineKey ⟨s'.heap, kA.toList, alike_keys zs, rfl, hk'⟩ (each_vals r)
    generalize PySem.W.sortVals (PySem.W.dataKind s'.heap (zs.map lineKey)) false kA.toList us = out at eo ha3
    have I0 : Inv X pins σ Hi s' := drop_pin (drop_pin I')
    have na : Hi a = none := pa.2.1
    have nk : Hi kS = none := pk.2.1
    have keepAll : ∀ b o, b ∉ [a, kS] → s'.heap.get? b = some o → h'.get? b = some o := fun b o hb q =>
      kp3 b o (fun z => hb (by rw [z]; exact List.mem_cons_self)) (PySem.W.hideAll_get _ q fun z => hb (List.mem_cons_of_mem _ z))
    have nt : ∀ b u, Hi b = some u → b ∉ [a, kS] := fun b u q z => by
      rcases List.mem_cons.mp z with z | z
      · rw [z, na] at q; cases q
      · rw [List.mem_singleton.mp z, nk] at q; cases q
    have kpU : ∀ b o, Hi b = some o → (upd Hi a (.lst ((sortL zs).map Prod.fst))) b = some o := fun b o q => by rw [upd_ne (ne_of_none q na)]; exact q
    refine h { s' with heap := h', toks := tk } (upd Hi a (.lst ((sortL zs).map Prod.fst))) ?_ (fun b o q => kpU b o (kp b o q)) na0 upd_same
    refine I0.step (g' := s'.gens) (d' := s'.drawn) (ch := [a, kS]) (fun b hb => ?_) (fun b o _ _ hc q _ => keepAll b o hc q) (fun b o _ _ hc q _ => ⟨o.slots, keepAll b o hc q⟩)
      (fun b o hc _ n => by rw [upd_ne (fun z => hc (by rw [z]; exact List.mem_cons_self))]; exact n) (fun b o hc q => ⟨o, keepAll b o hc q⟩) (fun b xs q => kpU b _ q) (fun b o u q => kpU b _ q) (fun b ps q => ⟨#[], by rw [kpU b _ q]; simp⟩) (fun m hm => ?_) (fun b u q => ?_) I0.bare
    · rcases List.mem_cons.mp hb with rfl | hb
      · exact ⟨wa.new, wa.loc, wa.cel, wa.pin⟩
      · rw [List.mem_singleton.mp hb]
        exact ⟨wk.new, wk.loc, wk.cel, wk.pin⟩
    · obtain ⟨o, es, ep, ho, q⟩ := hm
      refine ⟨o, es, ep, keepAll _ o (fun z => ?_) ho, q⟩
      rcases List.mem_cons.mp z with z | z
      · exact wa.loc z.symm
      · exact wk.loc (List.mem_singleton.mp z).symm
    · by_cases hb : b = a
      · rw [hb] at q ⊢
        rw [upd_same] at q
        cases q
        refine ⟨?_, out, c, vals_each eo, ha3⟩
        have h1 := (vals_each eo).length
        rw [List.length_map]
        have h2 : (sortL zs).length = zs.length := (List.mergeSort_perm _ _).length_eq
        omega
      · rw [upd_ne hb] at q
        exact (I0.hok b u q).stay (fun d v hd y => keepAll d v (by
          rcases hd with z | z
          · rw [z]; exact nt b u q
          · exact nt d _ z) y) (fun d y => kpU d _ y) fun d xs y => kpU d _ y

theorem key_sorted {f l : Addr} {zs : List (V × Str)} {Q : VK} (I : Inv X pins σ H s) (hl : SqL X.K H l (zs.map Prod.fst)) (hu : X.A.units + 64 < cLine) (turn : KeyTurn X X.A.in1.in1 (.ref f) H σ zs)
    (h : ∀ (H' : Hp) (a : Addr), (∀ b o, H b = some o → H' b = some o) → H a = none → H' a = some (.lst ((sortL zs).map Prod.fst)) → Q (.ref a) H') :
    wpAny (model X.prog X.w) X.A (call (.builtin "sorted") [.ref l] [(Str.ofString "key", .ref f)]) (EP X pins σ Q) X.xe s := by
  obtain ⟨us, r, hL, hz⟩ := I.list hl
  have hzl : zs.length = us.length := by rw [← r.length, List.length_map]
  rw [List.length_map] at hz
  refine PySem.W.sorted_of_sort hL.isList (by omega) (ksk_s1 _ _) (fun _ => ksk_l1 _ _) fun E' => ?_
  rw [ksk_t1]
  have fresh : s.heap.objs.size ≤ s.heap.objs.size + 1 := Nat.le_succ _
  have wa0 : Own X pins (s.heap.objs.size + 1) := Own.of I fresh
  have hna : H (s.heap.objs.size + 1) = none := I.hok.fresh fresh
  have ho := PySem.W.copyHeap_at s.heap us
  have hsz : (PySem.W.copyHeap s.heap us).objs.size = s.heap.objs.size + 2 := by
    unfold PySem.W.copyHeap
    rw [size_push', Heap.size_update, size_push']
  obtain ⟨e1, ho1⟩ : ∃ e1, ((PySem.W.copyHeap s.heap us).update (s.heap.objs.size + 1) (Obj.mapSeq fun _ => (#[] : Array Value))).get? (s.heap.objs.size + 1) = some (seqObj "list" #[] e1) := ⟨_, get?_update_seq ho fun _ => #[]⟩
  unfold ksk_tree
  refine wpAny_bind (listItems_at ho rfl ?_)
  refine wpAny_bind (listUpdate_at ho rfl ?_ (by rw [List.size_toArray]; omega) (Nat.zero_le _))
  refine wpAny_bind (seqEpoch_at ho1 rfl ?_)
  refine wpAny_bind (wpAny_newTuple ?_ (by show us.length ≤ _; omega))
  refine wpAny_bind (wpAny_newList ?_ (Nat.zero_le _))
  refine wpAny_holding ?_
  have hkS : (((PySem.W.copyHeap s.heap us).update (s.heap.objs.size + 1) (Obj.mapSeq fun _ => (#[] : Array Value))).push (seqObj "tuple" us.toArray 0)).objs.size = s.heap.objs.size + 3 := by
    rw [size_push', Heap.size_update, hsz]
  have wk0 : Own X pins (s.heap.objs.size + 3) := Own.of I (Nat.le_add_right _ _)
  have hnk : H (s.heap.objs.size + 3) = none := I.hok.fresh (Nat.le_add_right _ _)
  have ne : s.heap.objs.size + 3 ≠ s.heap.objs.size + 1 := by omega
  have kp : ∀ b o, s.heap.get? b = some o → ((((PySem.W.copyHeap s.heap us).update (s.heap.objs.size + 1) (Obj.mapSeq fun _ => (#[] : Array Value))).push (seqObj "tuple" us.toArray 0)).push (seqObj "list" #[] 0)).get? b = some o := fun b o q => PySem.W.sorting_copy_old q
  have I1 : Inv X pins σ H { s with heap := (((PySem.W.copyHeap s.heap us).update (s.heap.objs.size + 1) (Obj.mapSeq fun _ => (#[] : Array Value))).push (seqObj "tuple" us.toArray 0)).push (seqObj "list" #[] 0) } := I.kept (t' := s.toks) kp
  have atA : ((((PySem.W.copyHeap s.heap us).update (s.heap.objs.size + 1) (Obj.mapSeq fun _ => (#[] : Array Value))).push (seqObj "tuple" us.toArray 0)).push (seqObj "list" #[] 0)).get? (s.heap.objs.size + 1) = some (seqObj "list" #[] e1) := Heap.get?_push_of_some _ (Heap.get?_push_of_some _ ho1)
  have atK : ((((PySem.W.copyHeap s.heap us).update (s.heap.objs.size + 1) (Obj.mapSeq fun _ => (#[] : Array Value))).push (seqObj "tuple" us.toArray 0)).push (seqObj "list" #[] 0)).get? (s.heap.objs.size + 3) = some (seqObj "list" #[] 0) := by
    have q := Heap.get?_push_size (h := ((PySem.W.copyHeap s.heap us).update (s.heap.objs.size + 1) (Obj.mapSeq fun _ => (#[] : Array Value))).push (seqObj "tuple" us.toArray 0)) (o := seqObj "list" #[] 0) rfl
    rw [hkS] at q
    exact q
  have I2 := put_pin (put_pin I1 wa0 atA hna seq_nd) (wk0.cons ne.symm) atK hnk seq_nd
  rw [hkS]
  exact key_rest I2 wa0 wk0 ne r (by omega) (by show X.A.units + 1 + 1 + 1 < cLine; omega) turn fun s' H' I' kp' na ha => ⟨rfl, .ref _, H', I', rfl, h H' _ kp' na ha⟩
end

/-! ### line_order, and sorted by it -/
def lineD (b : Str) : PyData := .tuple [.int ((b.length : Nat) : Int), .str b]
def ordL (bs : List Str) : List Str := bs.mergeSort (PySem.W.dataLe false lineD)
theorem sortL_map (bs : List Str) : ((sortL (bs.map fun b => (V.str b, b))).map Prod.fst) = (ordL bs).map V.str := by
  have e : sortL (bs.map fun b => (V.str b, b)) = (ordL bs).map fun b => (V.str b, b) := by
    unfold sortL ordL
    have q := List.map_mergeSort (r := PySem.W.dataLe false lineD) (s := PySem.W.dataLe false lineKey) (f := fun b : Str => (V.str b, b)) (l := bs) (fun a _ b _ => rfl)
    exact q.symm
  rw [e, List.map_map]
  rfl
def spOrder : Sp := fun vs H Q _ => ∃ b : Str, vs = [.str b] ∧ b.length ≤ sizeLine ∧ ∀ p, H p = none → Q (.ref p) (upd H p (.tup (keyT b)))
def rSortF (K : PySem.W.Frag) (f : Addr) : List V → List V → Hp → VK → Prop := fun vs ws H Q => ∃ (l : Addr) (bs : List Str), vs = [.ref l] ∧ ws = [.ref f] ∧ SqL K H l (bs.map V.str) ∧ (∀ b ∈ bs, b.length ≤ sizeLine)
  ∧ ∀ H' a, (∀ b o, H b = some o → H' b = some o) → H a = none → H' a = some (.lst ((ordL bs).map V.str)) → Q (.ref a) H'
section
variable {X : Cx}
theorem call_sortF {f : Addr} {fd : FuncData} {k : Nat} (F : FnOk X.prog X.w X.K X.mg X.base CX0 k f fd ["line"] spOrder) (hb : Binds X.K fd ["line"] []) (hr : Room (k + 2) X.A) :
    CallRK X (.builtin "sorted") [Str.ofString "key"] (rSortF X.K f) := by
  intro pins s σ H vs ws us us2 Q I r1 r2 h
  obtain ⟨l, bs, rfl, rfl, hl, hbs, q⟩ := h
  obtain rfl := Vals.ref1 r1
  obtain rfl := Vals.ref1 r2
  have e1 : (bs.map fun b => (V.str b, b)).map Prod.fst = bs.map V.str := by rw [List.map_map]; rfl
  refine key_sorted (zs := bs.map fun b => (V.str b, b)) I (by rw [e1]; exact hl) (by have := hr.un; omega) (fun pins2 s2 Hi u z hz I2 kp ru => ?_) fun H' a kp na ha => q H' a kp na (by rw [← sortL_map]; exact ha)
  obtain ⟨b, hbm, rfl⟩ := List.mem_map.mp hz
  have rv : Vals [V.str b] ([u] ++ []) := .cons ru .nil
  refine wpAny_call (codeAny_mono (F.run X.A.in1.in1 X.stack s2 Hi ⟨[u], []⟩ ([u] ++ []) [V.str b] (fun v H' => ∃ p, v = .ref p ∧ Hi p = none ∧ H' = upd Hi p (.tup (keyT b))) E0 hr.in1.in1 I2.env0.in1.in1 (hb s2 [u] I2.kIn rfl) rv ⟨b, rfl, hbs b hbm, fun p hp => ⟨p, rfl, hp, rfl⟩⟩) fun r s' hq => ?_)
  cases r with
  | error e => exact hq
  | ok fl =>
    cases fl with
    | ret u => exact I2.after hq
    | next => exact False.elim hq
    | brk => exact False.elim hq
    | cont => exact False.elim hq
end
end FL
namespace FL
open PySem PySem.Spec PyProof.Rows L2
/-! ### dicts whose keys are texts -/
def KeysOf (kvs : List (Key × V)) (bs : List Str) : Prop := kvs.map (·.1) = bs.map Sum.inr ∧ bs.Nodup
def addB (bs : List Str) (b : Str) : List Str := if b ∈ bs then bs else bs ++ [b]
theorem mem_addB {bs : List Str} {b x : Str} : x ∈ addB bs b ↔ x ∈ bs ∨ x = b := by
  unfold addB
  by_cases h : b ∈ bs
  · rw [if_pos h]
    exact ⟨.inl, fun q => q.elim id fun e => by rw [e]; exact h⟩
  · rw [if_neg h, List.mem_append, List.mem_singleton]
theorem addB_len (bs : List Str) (b : Str) : (addB bs b).length ≤ bs.length + 1 := by
  unfold addB
  by_cases h : b ∈ bs
  · rw [if_pos h]; omega
  · rw [if_neg h, List.length_append]; exact Nat.le_refl _
theorem addB_nodup {bs : List Str} {b : Str} (h : bs.Nodup) : (addB bs b).Nodup := by
  unfold addB
  by_cases q : b ∈ bs
  · rw [if_pos q]; exact h
  · rw [if_neg q]
    refine List.nodup_append.mpr ⟨h, by simp, fun x hx y hy e => ?_⟩
    rw [List.mem_singleton.mp hy] at e
    exact q (e ▸ hx)
theorem KeysOf.mem {kvs : List (Key × V)} {bs : List Str} (h : KeysOf kvs bs) {b : Str} : b ∈ bs ↔ ∃ kv ∈ kvs, kv.1 = Sum.inr b := by
  constructor
  · intro hb
    have : Sum.inr b ∈ kvs.map (·.1) := by rw [h.1]; exact List.mem_map.mpr ⟨b, hb, rfl⟩
    obtain ⟨kv, h1, h2⟩ := List.mem_map.mp this
    exact ⟨kv, h1, h2⟩
  · rintro ⟨kv, h1, h2⟩
    have : (Sum.inr b : Key) ∈ bs.map Sum.inr := by rw [← h.1]; exact List.mem_map.mpr ⟨kv, h1, h2⟩
    obtain ⟨x, h3, h4⟩ := List.mem_map.mp this
    rw [← Sum.inr.inj h4]
    exact h3
theorem KeysOf.val {kvs : List (Key × V)} {bs : List Str} (h : KeysOf kvs bs) {b : Str} : valV kvs (Sum.inr b) ≠ none ↔ b ∈ bs := by
  rw [h.mem]
  have q := valV_any (kvs := kvs) (k := (Sum.inr b : Key))
  constructor
  · intro hn
    have e : (kvs.any fun kv => decide (kv.1 = (Sum.inr b : Key))) = true := by
      rw [q]
      cases e : valV kvs (Sum.inr b : Key) with
      | none => exact absurd e hn
      | some v => rfl
    obtain ⟨kv, h1, h2⟩ := List.any_eq_true.mp e
    exact ⟨kv, h1, of_decide_eq_true h2⟩
  · rintro ⟨kv, h1, h2⟩ hn
    have e : (kvs.any fun kv => decide (kv.1 = (Sum.inr b : Key))) = true := List.any_eq_true.mpr ⟨kv, h1, decide_eq_true h2⟩
    rw [q, hn] at e
    cases e
theorem KeysOf.put {kvs : List (Key × V)} {bs : List Str} (h : KeysOf kvs bs) (b : Str) (v : V) : KeysOf (putK kvs (Sum.inr b) v) (addB bs b) := by
  refine ⟨?_, addB_nodup h.2⟩
  unfold addB
  by_cases q : b ∈ bs
  · rw [if_pos q]
    have hv := h.val.mpr q
    have e : (kvs.any fun kv => decide (kv.1 = (Sum.inr b : Key))) = true := by
      rw [valV_any]
      cases e : valV kvs (Sum.inr b : Key) with
      | none => exact absurd e hv
      | some v => rfl
    unfold putK
    rw [if_pos e, ← h.1, List.map_map]
    refine List.map_congr_left fun kv _ => ?_
    show (if kv.1 = Sum.inr b then (kv.1, v) else kv).1 = kv.1
    by_cases z : kv.1 = Sum.inr b
    · rw [if_pos z]
    · rw [if_neg z]
  · rw [if_neg q]
    have hv : valV kvs (Sum.inr b : Key) = none := by
      cases e : valV kvs (Sum.inr b : Key) with
      | none => rfl
      | some v => exact absurd (h.val.mp (by rw [e]; exact fun z => nomatch z)) q
    rw [putK_new _ hv, List.map_append, h.1, List.map_append]
    rfl
theorem KeysOf.len {kvs : List (Key × V)} {bs : List Str} (h : KeysOf kvs bs) : kvs.length = bs.length := by
  have := congrArg List.length h.1
  rw [List.length_map, List.length_map] at this
  exact this
/-- a lock is taken off -/
theorem same_unlock {H H' : Hp} {d : Addr} {o : Obj} {u : HO} (hd : H d = some u) (s : Same (upd H d (.frz o u)) H') : Same H (upd H' d u) := fun c x e => by
  by_cases h : c = d
  · rw [h] at e ⊢
    rw [upd_same, ← e, hd]
  · rw [upd_ne h]
    refine s c x ?_
    rw [upd_ne h]
    exact e
end FL
namespace FL
open PySem PySem.Spec PyProof.Rows L2
/-! ### relays one after another -/
def thr (rss : List (List Rule)) (y : Str) : Str := rss.foldl (fun y rs => turn rs y) y
theorem turnR_len {r : Rule} {y : Str} {b : Nat} (h : r.new.length ≤ b) : (turnR r y).length ≤ y.length + b := by
  unfold turnR
  split
  · rw [len_app]
    have := cutS_length y (some (r.old.length : Int)) none
    omega
  · omega
theorem turn_len {b : Nat} : ∀ {rs : List Rule} {y : Str}, (∀ r ∈ rs, r.new.length ≤ b) → (turn rs y).length ≤ y.length + b
  | [], y, _ => Nat.le_add_right _ _
  | r :: rs, y, h => by
    show (if fits r y = true then turnR r y else turn rs y).length ≤ _
    by_cases q : fits r y = true
    · rw [if_pos q]; exact turnR_len (h r List.mem_cons_self)
    · rw [if_neg q]; exact turn_len fun r' hr' => h r' (List.mem_cons_of_mem _ hr')
theorem thr_len {b : Nat} : ∀ {rss : List (List Rule)} {y : Str}, (∀ rs ∈ rss, ∀ r ∈ rs, r.new.length ≤ b) → (thr rss y).length ≤ y.length + rss.length * b
  | [], y, _ => Nat.le_add_right _ _
  | rs :: rss, y, h => by
    have h1 := turn_len (y := y) (h rs List.mem_cons_self)
    have h2 := thr_len (rss := rss) (y := turn rs y) fun rs' h' => h rs' (List.mem_cons_of_mem _ h')
    show (thr rss (turn rs y)).length ≤ _
    rw [List.length_cons, Nat.add_mul]
    omega
theorem IdxAt.same {H H' : Hp} {d : Addr} {rs : List Rule} (h : IdxAt H d rs) (s : Same H H') : IdxAt H' d rs := by
  obtain ⟨kvs, h1, h2, h3⟩ := h
  exact ⟨kvs, s _ _ h1, h2, h3.imp fun t a e => s t _ e⟩
structure Idxs (K : PySem.W.Frag) (H : Hp) (L : Addr) (rss : List (List Rule)) : Prop where
  ex : ∃ ds : List Addr, SqL K H L (ds.map V.ref) ∧ Paired (IdxAt H) ds rss
  few : rss.length ≤ 2
  rb : ∀ rs ∈ rss, ∀ r ∈ rs, r.old.length ≤ 40 ∧ r.new.length ≤ 1000
theorem paired_map {α β : Type} {R R' : α → β → Prop} : ∀ {as : List α} {bs : List β}, Paired R as bs → (∀ a b, R a b → R' a b) → Paired R' as bs
  | _, _, .nil, _ => .nil
  | _, _, .cons h t, k => .cons (k _ _ h) (paired_map t k)
end FL
namespace FL
open PySem PySem.Spec PyProof.Rows L2
/-! ### the order of lines -/
def lineLe (a b : Str) : Bool := PySem.W.dataLe false lineD a b
theorem lineLe_iff {a b : Str} : lineLe a b = true ↔ a.length < b.length ∨ (a.length = b.length ∧ ls a ≤ ls b) := by
  have e : lineLe a b = !(PySem.W.dataLt (lineD b) (lineD a)) := rfl
  rw [e]
  unfold lineD
  rw [PySem.W.dataLt_pair (by simp [PySem.W.alike]) (by simp [PySem.W.alike]), PySem.W.dataLt_int, PySem.W.dataLt_str]
  simp only [PyData.eqv, beq_iff_eq]
  by_cases h1 : ((b.length : Nat) : Int) = ((a.length : Nat) : Int)
  · have h1' : a.length = b.length := by omega
    rw [if_pos h1]
    by_cases h2 : b = a
    · rw [if_pos h2, h2]
      simp
    · rw [if_neg h2]
      constructor
      · intro q
        refine .inr ⟨h1', ?_⟩
        have q2 : ¬ (b.cps.toList < a.cps.toList) := by simpa using q
        exact List.not_lt.mp q2
      · rintro (q | ⟨_, q⟩)
        · omega
        · have q2 : ¬ (b.cps.toList < a.cps.toList) := List.not_lt.mpr q
          simpa using q2
  · rw [if_neg h1]
    constructor
    · intro q
      have q2 : ¬ ((b.length : Nat) : Int) < ((a.length : Nat) : Int) := by simpa using q
      exact .inl (by omega)
    · rintro (q | ⟨q, _⟩)
      · have q2 : ¬ ((b.length : Nat) : Int) < ((a.length : Nat) : Int) := by omega
        simpa using q2
      · omega
theorem lineLe_total : PySem.W.TotalLe lineLe := PySem.W.sortLe_total (PyProof.Rows.listOrd PyProof.Rows.itemOrd) false (fun b : Str => PySem.W.keyToks (lineD b))
theorem lineLe_len {a b : Str} (h : lineLe a b = true) : a.length ≤ b.length := by
  rcases lineLe_iff.mp h with q | ⟨q, _⟩ <;> omega
theorem lineLe_anti {a b : Str} (h1 : lineLe a b = true) (h2 : lineLe b a = true) : a = b := by
  rcases lineLe_iff.mp h1 with q | ⟨q, q1⟩
  · have := lineLe_len h2
    omega
  · rcases lineLe_iff.mp h2 with r | ⟨_, q2⟩
    · omega
    · exact ls_inj (List.le_antisymm q1 q2)
theorem ordL_sorted (bs : List Str) : (ordL bs).Pairwise fun a b => lineLe a b = true := PySem.W.sort_pairwise lineLe_total bs
theorem ordL_perm (bs : List Str) : (ordL bs).Perm bs := List.mergeSort_perm _ _
theorem mem_ordL {bs : List Str} {b : Str} : b ∈ ordL bs ↔ b ∈ bs := (ordL_perm bs).mem_iff
theorem ordL_len (bs : List Str) : (ordL bs).length = bs.length := (ordL_perm bs).length_eq
/-- the order of lines depends on the set alone -/
theorem ordL_of {bs cs : List Str} (hb : bs.Nodup) (hc : cs.Nodup) (h : ∀ b, b ∈ bs ↔ b ∈ cs) : ordL bs = ordL cs := by
  have hp : bs.Perm cs := (List.perm_ext_iff_of_nodup hb hc).mpr h
  exact List.Perm.eq_of_pairwise (fun a b _ _ h1 h2 => lineLe_anti h1 h2) (ordL_sorted bs) (ordL_sorted cs) ((ordL_perm bs).trans (hp.trans (ordL_perm cs).symm))
theorem ordL_is {bs cs : List Str} (hb : bs.Nodup) (hc : cs.Nodup) (hs : cs.Pairwise fun a b => lineLe a b = true) (h : ∀ b, b ∈ bs ↔ b ∈ cs) : ordL bs = cs := by
  have hp : bs.Perm cs := (List.perm_ext_iff_of_nodup hb hc).mpr h
  exact List.Perm.eq_of_pairwise (fun a b _ _ h1 h2 => lineLe_anti h1 h2) (ordL_sorted bs) hs ((ordL_perm bs).trans hp)
end FL
namespace FL
open PySem PySem.Spec PyProof.Rows L2
/-! ### all lines up to a length, in their order -/
def sg1 (c : Nat) : Str := ⟨#[c]⟩
def ext (z : Str) (y : Str) : List Str := z.cps.toList.map fun c => y ++ sg1 c
def lev (z : Str) : Nat → List Str
  | 0 => [Str.ofString ""]
  | i + 1 => (lev z i).flatMap (ext z)
def notesL (z : Str) : Nat → List Str
  | 0 => lev z 0
  | i + 1 => notesL z i ++ lev z (i + 1)
theorem ls_sg1 (y : Str) (c : Nat) : ls (y ++ sg1 c) = ls y ++ [c] := by
  rw [ls_app]
  rfl
theorem mem_lev {z : Str} : ∀ {i : Nat} {y : Str}, y ∈ lev z i ↔ Over z y ∧ y.length = i
  | 0, y => by
    show y ∈ [Str.ofString ""] ↔ _
    rw [List.mem_singleton]
    constructor
    · rintro rfl
      refine ⟨fun c hc => ?_, by decide +kernel⟩
      rw [show (Str.ofString "").cps.toList = [] by decide +kernel] at hc
      cases hc
    · rintro ⟨_, h⟩
      apply ls_inj
      rw [str_len] at h
      rw [show ls (Str.ofString "") = [] by decide +kernel]
      exact List.eq_nil_of_length_eq_zero h
  | i + 1, y => by
    show y ∈ (lev z i).flatMap (ext z) ↔ _
    rw [List.mem_flatMap]
    constructor
    · rintro ⟨u, hu, hy⟩
      obtain ⟨o, l⟩ := mem_lev.mp hu
      obtain ⟨c, hc, rfl⟩ := List.mem_map.mp hy
      refine ⟨over_app o (over_one hc), ?_⟩
      rw [len_app, l]
      rfl
    · rintro ⟨o, l⟩
      have hne : ls y ≠ [] := fun q => by
        rw [str_len] at l
        rw [show y.cps.toList = [] from q] at l
        cases l
      have e : (ls y).dropLast ++ [(ls y).getLast hne] = ls y := List.dropLast_concat_getLast hne
      refine ⟨st (ls y).dropLast, mem_lev.mpr ⟨fun c hc => o c (List.dropLast_subset _ hc), ?_⟩, List.mem_map.mpr ⟨(ls y).getLast hne, o _ (List.getLast_mem hne), ls_inj ?_⟩⟩
      · show (ls y).dropLast.length = i
        rw [List.length_dropLast]
        rw [str_len] at l
        show y.cps.toList.length - 1 = i
        omega
      · rw [ls_sg1]
        exact e
theorem lt_app : ∀ {a b s t : List Nat}, a.length = b.length → a < b → a ++ s < b ++ t
  | [], [], _, _, _, h => absurd h (by simp)
  | [], _ :: _, _, _, h, _ => nomatch h
  | _ :: _, [], _, _, h, _ => nomatch h
  | x :: a, y :: b, s, t, hl, h => by
    show x :: (a ++ s) < y :: (b ++ t)
    rw [List.cons_lt_cons_iff] at h ⊢
    rcases h with h | ⟨h1, h2⟩
    · exact .inl h
    · exact .inr ⟨h1, lt_app (Nat.succ.inj hl) h2⟩
theorem lt_app1 {c d : Nat} (h : c < d) : ∀ a : List Nat, a ++ [c] < a ++ [d]
  | [] => by
    show [c] < [d]
    rw [List.cons_lt_cons_iff]
    exact .inl h
  | x :: a => by
    show x :: (a ++ [c]) < x :: (a ++ [d])
    rw [List.cons_lt_cons_iff]
    exact .inr ⟨rfl, lt_app1 h a⟩
theorem lev_sorted {z : Str} (hz : z.cps.toList.Pairwise (· < ·)) : ∀ i, (lev z i).Pairwise fun a b => ls a < ls b
  | 0 => List.pairwise_singleton _ _
  | i + 1 => by
    show ((lev z i).flatMap (ext z)).Pairwise _
    have ih := lev_sorted hz i
    have hl : ∀ y ∈ lev z i, y.length = i := fun y hy => (mem_lev.mp hy).2
    rw [List.pairwise_flatMap]
    refine ⟨fun y hy => ?_, ?_⟩
    · unfold ext
      refine List.pairwise_map.mpr (hz.imp fun {c d} h => ?_)
      rw [ls_sg1, ls_sg1]
      exact lt_app1 h _
    · refine List.Pairwise.imp_of_mem (fun {a b} ha hb h x hx y hy => ?_) ih
      obtain ⟨c, _, rfl⟩ := List.mem_map.mp hx
      obtain ⟨d, _, rfl⟩ := List.mem_map.mp hy
      rw [ls_sg1, ls_sg1]
      have e1 := hl a ha
      have e2 := hl b hb
      rw [str_len] at e1 e2
      exact lt_app (e1.trans e2.symm) h
theorem mem_notes {z : Str} : ∀ {m : Nat} {y : Str}, y ∈ notesL z m ↔ Over z y ∧ y.length ≤ m
  | 0, y => by
    show y ∈ lev z 0 ↔ _
    rw [mem_lev]
    exact ⟨fun h => ⟨h.1, Nat.le_of_eq h.2⟩, fun h => ⟨h.1, by omega⟩⟩
  | m + 1, y => by
    show y ∈ notesL z m ++ lev z (m + 1) ↔ _
    rw [List.mem_append, mem_notes, mem_lev]
    constructor
    · rintro (⟨h1, h2⟩ | ⟨h1, h2⟩)
      · exact ⟨h1, by omega⟩
      · exact ⟨h1, by omega⟩
    · rintro ⟨h1, h2⟩
      by_cases e : y.length = m + 1
      · exact .inr ⟨h1, e⟩
      · exact .inl ⟨h1, by omega⟩
theorem notes_sorted {z : Str} (hz : z.cps.toList.Pairwise (· < ·)) : ∀ m, (notesL z m).Pairwise fun a b => lineLe a b = true
  | 0 => List.pairwise_singleton _ _
  | m + 1 => by
    show (notesL z m ++ lev z (m + 1)).Pairwise _
    refine List.pairwise_append.mpr ⟨notes_sorted hz m, List.Pairwise.imp_of_mem (fun {a b} ha hb h => ?_) (lev_sorted hz (m + 1)), fun a ha b hb => ?_⟩
    · refine lineLe_iff.mpr (.inr ⟨((mem_lev.mp ha).2).trans ((mem_lev.mp hb).2).symm, List.le_of_lt h⟩)
    · refine lineLe_iff.mpr (.inl ?_)
      have h1 := (mem_notes.mp ha).2
      have h2 := (mem_lev.mp hb).2
      omega
theorem lev_len (z : Str) : ∀ i, (lev z i).length = z.length ^ i
  | 0 => rfl
  | i + 1 => by
    show ((lev z i).flatMap (ext z)).length = _
    rw [List.length_flatMap]
    have : (lev z i).map (fun a => (ext z a).length) = (lev z i).map fun _ => z.length := List.map_congr_left fun a _ => by unfold ext; rw [List.length_map, str_len]
    rw [this, List.map_const', List.sum_replicate_nat, lev_len z i, Nat.pow_succ]
end FL
namespace FL
open PySem PySem.Spec PyProof.Rows L2
/-! ### stages of rules: where they may look behind a line -/
def tLs (rss : List (List Rule)) (l : Lns) : Lns := rss.foldl (fun l rs => tL rs l) l
theorem thr_list : ∀ (rss : List (List Rule)) (y : Str), ls (thr rss y) = tLs rss (ls y)
  | [], _ => rfl
  | rs :: rss, y => by
    show ls (thr rss (turn rs y)) = tLs rss (tL rs (ls y))
    rw [thr_list rss, turn_list]
def looksB (rs : List Rule) (y : Str) : Bool := rs.any fun r => decide (cutS r.old none (some ((y.length : Nat) : Int)) = y) && (!r.fr || decide (y.length < r.old.length))
def shortB : List (List Rule) → Str → Bool
  | [], _ => false
  | rs :: rss, y => looksB rs y || shortB rss (turn rs y)
theorem pre_take {a b : Str} : cutS b none (some ((a.length : Nat) : Int)) = a ↔ ls a <+: ls b := by
  constructor
  · intro h
    have e2 := congrArg ls h
    rw [cut_take] at e2
    rw [← e2]
    exact List.take_prefix _ _
  · intro h
    apply ls_inj
    rw [cut_take, str_len]
    exact (List.prefix_iff_eq_take.mp h).symm
theorem looks_iff {rs : List Rule} {y : Str} : looksB rs y = true ↔ ∃ r ∈ rs, ls y <+: ls r.old ∧ (r.fr = false ∨ y.length < r.old.length) := by
  unfold looksB
  rw [List.any_eq_true]
  constructor
  · rintro ⟨r, hr, h⟩
    obtain ⟨h1, h2⟩ := Bool.and_eq_true_iff.mp h
    refine ⟨r, hr, pre_take.mp (of_decide_eq_true h1), ?_⟩
    rcases Bool.or_eq_true_iff.mp h2 with h3 | h3
    · exact .inl (by simpa using h3)
    · exact .inr (of_decide_eq_true h3)
  · rintro ⟨r, hr, h1, h2⟩
    refine ⟨r, hr, Bool.and_eq_true_iff.mpr ⟨decide_eq_true (pre_take.mpr h1), ?_⟩⟩
    rcases h2 with h2 | h2
    · rw [h2]; rfl
    · rw [decide_eq_true h2, Bool.or_true]
theorem tL_far {u s : Lns} : ∀ {rs : List Rule}, (∀ r ∈ rs, u <+: ls r.old → r.fr = true ∧ (ls r.old).length ≤ u.length) → tL rs (u ++ s) = tL rs u ++ s
  | [], _ => rfl
  | r :: rs, h => by
    have h1 := h r List.mem_cons_self
    have ih := tL_far (s := s) fun r' hr' => h r' (List.mem_cons_of_mem _ hr')
    unfold tL
    cases e : r.fr with
    | true =>
      simp only
      by_cases hp : ls r.old <+: u
      · have hp2 : ls r.old <+: u ++ s := hp.trans (List.prefix_append _ _)
        rw [if_pos hp, if_pos hp2, List.append_assoc, List.drop_append_of_le_length hp.length_le]
      · have hp2 : ¬ ls r.old <+: u ++ s := fun q => by
          rcases Nat.le_total (ls r.old).length u.length with hl | hl
          · exact hp (List.prefix_of_prefix_length_le q (List.prefix_append _ _) hl)
          · have hu := List.prefix_of_prefix_length_le (List.prefix_append _ _) q hl
            have h2 := (h1 hu).2
            exact hp (List.prefix_of_prefix_length_le q (List.prefix_append _ _) h2)
        rw [if_neg hp, if_neg hp2, ih]
    | false =>
      simp only
      have n1 : ¬ u = ls r.old := fun q => by
        have := (h1 (by rw [q]; exact List.prefix_rfl)).1
        rw [e] at this
        cases this
      have n2 : ¬ u ++ s = ls r.old := fun q => by
        have := (h1 (by rw [← q]; exact List.prefix_append _ _)).1
        rw [e] at this
        cases this
      rw [if_neg n1, if_neg n2, ih]
theorem not_looks {rs : List Rule} {y : Str} (h : looksB rs y = false) : ∀ r ∈ rs, ls y <+: ls r.old → r.fr = true ∧ (ls r.old).length ≤ (ls y).length := fun r hr hp => by
  have key : ¬ (r.fr = false ∨ y.length < r.old.length) := fun q => by
    rw [looks_iff.mpr ⟨r, hr, hp, q⟩] at h
    cases h
  refine ⟨by cases e : r.fr with | true => rfl | false => exact absurd (.inl e) key, ?_⟩
  have := fun q => key (.inr q)
  rw [str_len, str_len] at this
  exact Nat.le_of_not_lt this
theorem far_evn {z : Lns} : ∀ {rss : List (List Rule)} {y : Str}, shortB rss y = false → Evn z (tLs rss) (ls y)
  | [], _, _ => fun _ _ => rfl
  | rs :: rss, y, h => fun s hs => by
    obtain ⟨h1, h2⟩ := Bool.or_eq_false_iff.mp h
    show tLs rss (tL rs (ls y ++ s)) = tLs rss (tL rs (ls y)) ++ s
    rw [tL_far (not_looks h1), ← turn_list]
    exact far_evn h2 s hs
theorem short_up : ∀ {rss : List (List Rule)} {y x : Str}, ls y <+: ls x → shortB rss x = true → shortB rss y = true
  | [], _, _, _, h => nomatch h
  | rs :: rss, y, x, hp, h => by
    show (looksB rs y || shortB rss (turn rs y)) = true
    cases e : looksB rs y with
    | true => rfl
    | false =>
      rw [Bool.false_or]
      obtain ⟨s, hs⟩ := hp
      rcases Bool.or_eq_true_iff.mp h with h1 | h1
      · obtain ⟨r, hr, q1, q2⟩ := looks_iff.mp h1
        have hp1 : ls y <+: ls r.old := (show ls y <+: ls x by rw [← hs]; exact List.prefix_append _ _).trans q1
        obtain ⟨n1, n2⟩ := not_looks e r hr hp1
        rcases q2 with q2 | q2
        · rw [q2] at n1; cases n1
        · have l1 : (ls y).length ≤ (ls x).length := by rw [← hs, List.length_append]; omega
          rw [str_len, str_len] at q2
          have q3 : (ls x).length < (ls r.old).length := q2
          omega
      · refine short_up (x := turn rs x) ?_ h1
        rw [turn_list, turn_list, ← hs, tL_far (not_looks e)]
        exact List.prefix_append _ _
theorem tL_len {M : Nat} : ∀ {rs : List Rule} {l : Lns}, (∀ r ∈ rs, r.old.length ≤ M) → l.length ≤ (tL rs l).length + M
  | [], l, _ => Nat.le_add_right _ _
  | r :: rs, l, h => by
    have h1 := h r List.mem_cons_self
    have ih := tL_len (l := l) fun r' hr' => h r' (List.mem_cons_of_mem _ hr')
    rw [str_len] at h1
    unfold tL
    cases e : r.fr with
    | true =>
      simp only
      by_cases hp : ls r.old <+: l
      · rw [if_pos hp, List.length_append, List.length_drop]
        have h2 : (ls r.old).length ≤ M := h1
        omega
      · rw [if_neg hp]; exact ih
    | false =>
      simp only
      by_cases hp : l = ls r.old
      · rw [if_pos hp, hp]
        have h2 : (ls r.old).length ≤ M := h1
        omega
      · rw [if_neg hp]; exact ih
theorem short_len {M : Nat} : ∀ {rss : List (List Rule)} {y : Str}, (∀ rs ∈ rss, ∀ r ∈ rs, r.old.length ≤ M) → shortB rss y = true → y.length ≤ rss.length * M
  | [], _, _, h => nomatch h
  | rs :: rss, y, hM, h => by
    rw [List.length_cons, Nat.succ_mul]
    rcases Bool.or_eq_true_iff.mp h with h1 | h1
    · obtain ⟨r, hr, q1, _⟩ := looks_iff.mp h1
      have l1 := q1.length_le
      have l2 := hM rs List.mem_cons_self r hr
      rw [str_len] at l2
      rw [str_len]
      have l3 : (ls r.old).length ≤ M := l2
      show (ls y).length ≤ _
      omega
    · have ih := short_len (fun rs' h' => hM rs' (List.mem_cons_of_mem _ h')) h1
      have l1 := tL_len (l := ls y) (hM rs List.mem_cons_self)
      rw [← turn_list] at l1
      rw [str_len] at ih
      rw [str_len]
      have ih2 : (ls (turn rs y)).length ≤ rss.length * M := ih
      show (ls y).length ≤ _
      omega
/-! ### the lines that are looked at, one behind another -/
def kids (z : Str) (rss : List (List Rule)) (y : Str) : List Str := if shortB rss y = true then ext z y else []
def lineLt (a b : Str) : Prop := a.length < b.length ∨ (a.length = b.length ∧ ls a < ls b)
theorem lineLt_len {a b : Str} (h : lineLt a b) : a.length ≤ b.length := by
  rcases h with h | h
  · omega
  · omega
theorem lineLt_le {a b : Str} (h : lineLt a b) : lineLe a b = true := lineLe_iff.mpr (h.imp id fun q => ⟨q.1, List.le_of_lt q.2⟩)
theorem lineLt_ne {a b : Str} (h : lineLt a b) : a ≠ b := fun e => by
  subst e
  rcases h with h | h
  · omega
  · exact List.lt_irrefl _ h.2
structure Bfs (z : Str) (rss : List (List Rule)) (N : List Str) (k : Nat) : Prop where
  le : k ≤ N.length
  eq : N = Str.ofString "" :: (N.take k).flatMap (kids z rss)
  srt : N.Pairwise lineLt
theorem Bfs.start (z : Str) (rss : List (List Rule)) : Bfs z rss [Str.ofString ""] 0 := ⟨Nat.zero_le _, rfl, List.pairwise_singleton _ _⟩
theorem mem_ext {z y x : Str} : x ∈ ext z y ↔ ∃ c ∈ ls z, x = y ++ sg1 c := by
  unfold ext
  rw [List.mem_map]
  exact ⟨fun ⟨c, h1, h2⟩ => ⟨c, h1, h2.symm⟩, fun ⟨c, h1, h2⟩ => ⟨c, h1, h2.symm⟩⟩
theorem mem_kids {z y x : Str} {rss : List (List Rule)} : x ∈ kids z rss y ↔ shortB rss y = true ∧ ∃ c ∈ ls z, x = y ++ sg1 c := by
  unfold kids
  by_cases h : shortB rss y = true
  · rw [if_pos h, mem_ext]
    exact ⟨fun q => ⟨h, q⟩, fun q => q.2⟩
  · rw [if_neg h]
    exact ⟨fun q => (nomatch q), fun q => absurd q.1 h⟩
theorem sg1_len (y : Str) (c : Nat) : (y ++ sg1 c).length = y.length + 1 := by
  rw [len_app]
  rfl
theorem kid_lt {a b : Str} {c d : Nat} (h : lineLt a b) : lineLt (a ++ sg1 c) (b ++ sg1 d) := by
  rcases h with h | ⟨h1, h2⟩
  · refine .inl ?_
    rw [sg1_len, sg1_len]
    omega
  · refine .inr ⟨by rw [sg1_len, sg1_len, h1], ?_⟩
    rw [ls_sg1, ls_sg1]
    rw [str_len, str_len] at h1
    exact lt_app h1 h2
theorem ext_sorted {z : Str} (hz : (ls z).Pairwise (· < ·)) (y : Str) : (ext z y).Pairwise lineLt := by
  unfold ext
  refine List.pairwise_map.mpr (hz.imp fun {c d} h => ?_)
  refine .inr ⟨by rw [sg1_len, sg1_len], ?_⟩
  rw [ls_sg1, ls_sg1]
  exact lt_app1 h _
theorem Bfs.mem {z : Str} {rss : List (List Rule)} {N : List Str} {k : Nat} (h : Bfs z rss N k) {x : Str} : x ∈ N ↔ x = Str.ofString "" ∨ ∃ u ∈ N.take k, shortB rss u = true ∧ ∃ c ∈ ls z, x = u ++ sg1 c := by
  conv => lhs; rw [h.eq]
  rw [List.mem_cons, List.mem_flatMap]
  refine or_congr Iff.rfl ?_
  exact ⟨fun ⟨u, h1, h2⟩ => ⟨u, h1, mem_kids.mp h2⟩, fun ⟨u, h1, h2⟩ => ⟨u, h1, mem_kids.mpr h2⟩⟩
theorem Bfs.step {z : Str} {rss : List (List Rule)} {N : List Str} {k : Nat} {y : Str} (hz : (ls z).Pairwise (· < ·)) (h : Bfs z rss N k) (hy : N[k]? = some y) : Bfs z rss (N ++ kids z rss y) (k + 1) := by
  have hk : k < N.length := (List.getElem?_eq_some_iff.mp hy).1
  have hyk : N[k] = y := (List.getElem?_eq_some_iff.mp hy).2
  refine ⟨by rw [List.length_append]; omega, ?_, List.pairwise_append.mpr ⟨h.srt, ?_, ?_⟩⟩
  · rw [List.take_append_of_le_length (by omega), take_snoc hy, List.flatMap_append]
    rw [List.flatMap_cons, List.flatMap_nil, List.append_nil]
    show N ++ kids z rss y = (Str.ofString "" :: (N.take k).flatMap (kids z rss)) ++ kids z rss y
    rw [← h.eq]
  · unfold kids
    split
    · exact ext_sorted hz y
    · exact .nil
  · intro a ha b hb
    obtain ⟨_, d, hd, rfl⟩ := mem_kids.mp hb
    rcases h.mem.mp ha with rfl | ⟨u, hu, _, c, hc, rfl⟩
    · refine .inl ?_
      rw [sg1_len]
      exact Nat.lt_of_lt_of_le (show (Str.ofString "").length < 1 by decide +kernel) (Nat.le_add_left _ _)
    · obtain ⟨i, hi, hie⟩ := List.mem_take_iff_getElem.mp hu
      refine kid_lt ?_
      rw [← hie, ← hyk]
      exact List.pairwise_iff_getElem.mp h.srt i k (by omega) hk (by omega)
theorem notes_len {z : Str} (hz : z.length ≤ 4) : ∀ m, (notesL z m).length ≤ 2 * 4 ^ m
  | 0 => by show 1 ≤ 2; decide
  | m + 1 => by
    have ih := notes_len hz m
    have h1 : (lev z (m + 1)).length ≤ 4 ^ (m + 1) := by
      rw [lev_len]
      exact Nat.pow_le_pow_left hz _
    show (notesL z m ++ lev z (m + 1)).length ≤ _
    rw [List.length_append]
    rw [Nat.pow_succ] at h1 ⊢
    omega
theorem nodup_of_lt {N : List Str} (h : N.Pairwise lineLt) : N.Nodup := h.imp fun {a b} q => lineLt_ne q
theorem nodup_sub {α : Type} [DecidableEq α] : ∀ {l m : List α}, l.Nodup → (∀ x ∈ l, x ∈ m) → l.length ≤ m.length
  | [], _, _, _ => Nat.zero_le _
  | x :: l, m, hn, hs => by
    obtain ⟨h1, h2⟩ := List.nodup_cons.mp hn
    have hx := hs x List.mem_cons_self
    have ih := nodup_sub (l := l) (m := m.erase x) h2 fun y hy => (List.mem_erase_of_ne (fun e => h1 (by rw [← e]; exact hy))).mpr (hs y (List.mem_cons_of_mem _ hy))
    rw [List.length_erase_of_mem hx] at ih
    have : 0 < m.length := List.length_pos_of_mem hx
    rw [List.length_cons]
    omega
theorem Bfs.ok {z : Str} {rss : List (List Rule)} {N : List Str} {k B : Nat} (hB : ∀ y, shortB rss y = true → y.length ≤ B) (h : Bfs z rss N k) : ∀ n, ∀ x ∈ N, x.length = n → Over z x ∧ x.length ≤ B + 1 := by
  intro n
  induction n with
  | zero =>
    intro x hx e
    refine ⟨fun c hc => ?_, by omega⟩
    have : ls x = [] := List.eq_nil_of_length_eq_zero (by rw [str_len] at e; exact e)
    rw [show x.cps.toList = [] from this] at hc
    cases hc
  | succ n ih =>
    intro x hx e
    rcases h.mem.mp hx with rfl | ⟨u, hu, hs, c, hc, rfl⟩
    · rw [show (Str.ofString "").length = 0 by decide +kernel] at e
      cases e
    · rw [sg1_len] at e ⊢
      obtain ⟨h1, _⟩ := ih u (List.mem_of_mem_take hu) (by omega)
      exact ⟨over_app h1 (over_one hc), Nat.succ_le_succ (hB u hs)⟩
theorem Bfs.few {z : Str} {rss : List (List Rule)} {N : List Str} {k B : Nat} (hz : z.length ≤ 4) (hB : ∀ y, shortB rss y = true → y.length ≤ B) (h : Bfs z rss N k) : N.length ≤ 2 * 4 ^ (B + 1) :=
  Nat.le_trans (nodup_sub (nodup_of_lt h.srt) fun x hx => mem_notes.mpr (h.ok hB _ x hx rfl)) (notes_len hz _)
/-- all that is not even is looked at -/
theorem Bfs.all {z : Str} {rss : List (List Rule)} {N : List Str} (h : Bfs z rss N N.length) : ∀ (n : Nat) (x : Str), x.length = n → Over z x → ¬ Evn (ls z) (tLs rss) (ls x) → x ∈ N
  | 0, x, e, _, _ => by
    refine h.mem.mpr (.inl (ls_inj ?_))
    rw [str_len] at e
    rw [show ls x = [] from List.eq_nil_of_length_eq_zero e]
    decide +kernel
  | n + 1, x, e, ho, hv => by
    have hne : ls x ≠ [] := fun q => by
      rw [str_len] at e
      rw [show x.cps.toList = [] from q] at e
      cases e
    have ex : x = st (ls x).dropLast ++ sg1 ((ls x).getLast hne) := ls_inj (by
      rw [ls_sg1]
      exact (List.dropLast_concat_getLast hne).symm)
    have hc : (ls x).getLast hne ∈ ls z := ho _ (List.getLast_mem hne)
    generalize (ls x).getLast hne = c at ex hc
    have hou : Over z (st (ls x).dropLast) := fun d hd => ho d (List.dropLast_subset _ hd)
    generalize st (ls x).dropLast = u at ex hou
    subst ex
    have hvu : ¬ Evn (ls z) (tLs rss) (ls u) := fun q => hv (by
      rw [ls_sg1]
      exact q.down fun d hd => by rw [List.mem_singleton.mp hd]; exact hc)
    have hu := Bfs.all h n u (by rw [sg1_len] at e; exact Nat.succ.inj e) hou hvu
    refine h.mem.mpr (.inr ⟨u, by rw [List.take_length]; exact hu, ?_, c, hc, rfl⟩)
    cases q : shortB rss u with
    | true => rfl
    | false => exact absurd (far_evn q) hvu
theorem Bfs.cells {z : Str} {rss : List (List Rule)} {N : List Str} (h : Bfs z rss N N.length) {x : Str} (ho : Over z x) (hc : Cell (ls z) (tLs rss) (ls x)) : x ∈ N := by
  rcases hc with q | q | ⟨u, c, hc, q, hu⟩
  · exact h.mem.mpr (.inl (ls_inj (by rw [q]; decide +kernel)))
  · exact h.all _ x rfl ho q
  · have ex : x = st u ++ sg1 c := ls_inj (by rw [q, ls_sg1])
    subst ex
    have hou : Over z (st u) := fun d hd => ho d (by
      show d ∈ ls (st u ++ sg1 c)
      rw [ls_sg1]
      exact List.mem_append_left _ hd)
    have hm := h.all _ (st u) rfl hou hu
    refine h.mem.mpr (.inr ⟨st u, by rw [List.take_length]; exact hm, ?_, c, hc, rfl⟩)
    cases e : shortB rss (st u) with
    | true => rfl
    | false => exact absurd (far_evn e) hu
end FL
namespace FL
open PySem PySem.Spec PyProof.Rows L2
/-! ### a method called by keywords alone -/
def tMethK (C : Addr) (m : Str) (n : Nat) (sp : Sp) (gV : List V → List V → List V) (E : XK) (ta : TE) (tk : TA) : TE := fun σ H Q => ta σ H fun x H1 => ∃ a dx fs, x = .ref a ∧ H1 a = some (.ins C dx fs) ∧ fs.lookup m = none ∧
  tk σ H1 fun zs H2 => zs.length = n ∧ sp (gV [.ref a] zs) H2 Q E
section
variable {X : Cx} {CX : CXT} {k : Nat} {C f : Addr} {fd : FuncData} {ps ks : List Str} {sp : Sp} {E : XK} {m : Str} {o : Expr} {kws : List Keyword} {ta : TE} {tk : TA} {apos pos : Pos} {gg : List Value → List Value → List Value} {gV : List V → List V → List V}
theorem pe_methK {pl : Sem Bool} (he : PE X o ta) (c : Cls X.K C) (hm : Meth X.K C m f) (F : FnOk X.prog X.w X.K X.mg X.base CX k f fd ps sp) (hr : Room k X.A) (hb : KBn X.K fd ps 1 ks gg gV) (hx : Passes CX X E) (hkw : PK X kws tk)
    (hall : (backToKw pos (keywordEach kws X.env)).all (·.1.isSome) = true := by rfl) (hks : (backToKw pos (keywordEach kws X.env)).filterMap (·.1) = ks := by rfl)
    (hpl : ((backTo pos (starEach [] X.env)).any (·.1) || (backToKw pos (keywordEach kws X.env)).any (·.1.isNone)) = false := by rfl)
    (ht : eval (.Call (.Attribute o m apos) [] kws pos) X.env = (do
      let ov ← eval o X.env
      standAt apos.atName
      let (f, first) ← holding [ov] (getMethod ov m pl)
      callWith pos f first (backTo pos (starEach [] X.env)) (backToKw pos (keywordEach kws X.env))) := by rfl) :
    PE X (.Call (.Attribute o m apos) [] kws pos) (tMethK C m ks.length sp gV E ta tk) := by
  refine ⟨fun pins s σ H Q I h => ?_⟩
  refine PySem.W.methodCall_KW (pl := pl) (thn (he.run pins s σ H _ I h) fun u s1 ⟨x, H1, I1, rx, a, dx, fs, ex, ea, l, q⟩ => ?_) ht
  subst ex
  obtain rfl : u = Value.ref a := rx
  refine getmeth_ok I1 ea c hm l ?_
  refine PySem.W.callWith_KW0 (first := [.ref a]) (h₀ := X.base) I.ok.mod.kin hm.kp hall (thn (hkw.run pos pins s1 σ H1 _ I1 q) fun ws s2 ⟨zs, H2, I2, rz, l2, q2⟩ => ⟨I2.kIn, ?_⟩) hpl
  rw [hks]
  exact run_fnN F hr hb hx I2 (show Vals [V.ref a] [Value.ref a] from .cons rfl .nil) rz rfl l2 q2
end
end FL
namespace FL
open PySem PySem.Spec PyProof.Rows L2
section
variable {X : Cx}
/-! ### sorted(text), d.update(e) -/
def rSortT : List V → Hp → VK → Prop := fun xs H Q => ∃ z : Str, xs = [.str z] ∧ z.length < 64 ∧ ∀ (ys : List Str) (p : Addr), ys.Perm (z.cps.toList.map one) → sortedS ys = true → H p = none → Q (.ref p) (upd H p (.lst (ys.map V.str)))
theorem cr_sortedT (hc : X.calm = true) : CallR X (.builtin "sorted") rSortT := by
  intro pins s σ H xs us Q I r h
  obtain ⟨z, rfl, h64, q⟩ := h
  obtain ⟨u, rfl, t, rfl⟩ := vals1 r
  have sz : sizeLine = 16777216 := rfl
  refine Calls.call_function_entry PyProof.Rows.kind_sorted PyProof.Rows.plain_sorted PyProof.Rows.entry_sorted (PyProof.Rows.args_sorted1 _) ?_
  unfold Builtin.«sorted»
  refine wpAny_bind (m := checkCount "sorted" 1 1 _) (wpAny_pure ?_)
  have hz : z.cps.size < 64 := h64
  have hh : X.A.in1.handled = none := I.ok.hd hc
  refine wpAny_bind (wpAny_collect_str (hn := by rw [sz]; omega) hh z t fun s' acc hk hg hd ho hacc => ?_)
  obtain ⟨hp, gg, dd, tk, os⟩ := s'
  simp only at hk hg hd ho
  subst hg hd ho
  have vS := vals_signs hacc
  have e1 : z.cps.toList.map sign = (z.cps.toList.map one).map V.str := by rw [List.map_map]; rfl
  rw [e1] at vS
  have hS := vS.strs
  have hl : acc.toList.length < 64 := by rw [← vS.length, List.length_map, List.length_map, Array.length_toList]; exact hz
  refine wpAny_bind (wpAny_newList ?_ (by rw [sz]; omega))
  have hoL : (hp.push (seqObj "list" acc.toList.toArray 0)).get? hp.objs.size = some (seqObj "list" acc.toList.toArray 0) := Heap.get?_push_size _ rfl
  refine wpAny_bind (wpAny_holding (wpAny_call_entry PyProof.Rows.slot_list_sort ⟨_, hoL, rfl⟩ PyProof.Rows.entry_list_sort (list_sort_treeK strKind_oneLt hoL hS.keysOf (fun v₁ v₂ rest e => keyKind_strs (by rw [← e]; exact hS)) hl fun st' a1 a2 => ⟨_, rfl, ?_⟩) (PyProof.Rows.args_list_sort _)))
  refine wpAny_pure ⟨_, rfl, ?_⟩
  obtain ⟨ss', h1, h2, h3⟩ := sorted_out_str hS a1 a2
  obtain ⟨ep, he'⟩ := PyProof.Rows.sortedHeap_at (vs := acc.toList) (out := (PyProof.Rows.arrOf st').map (·.2)) hoL
  have hlen : (ss'.map V.str).length ≤ sizeLine := by rw [List.length_map, h2.length_eq, List.length_map, Array.length_toList, sz]; omega
  have kp : ∀ b o, hp.get? b = some o → (PyProof.Rows.sortedHeap (hp.push (seqObj "list" acc.toList.toArray 0)) hp.objs.size acc.toList ((PyProof.Rows.arrOf st').map (·.2))).get? b = some o := fun b o e => by
    have e3 : (hp.push (seqObj "list" acc.toList.toArray 0)).get? b = some o := Heap.get?_push_of_some _ e
    rw [PyProof.Rows.sortedHeap_old (Nat.ne_of_lt (Heap.lt_size e)) (Heap.lt_size e3)]
    exact e3
  have J : Inv X pins σ H { s with heap := hp, toks := tk } := I.kept hk
  exact ⟨.ref hp.objs.size, upd H hp.objs.size (.lst (ss'.map V.str)), J.laid (t' := tk) kp (Nat.le_refl _) ⟨hlen, _, ep, vals_of_strs h1, he'⟩, rfl, q ss' _ h2 h3 (J.hok.fresh (Nat.le_refl _))⟩
def rDUpd : V → List V → Hp → VK → Prop := fun x vs H Q => ∃ (a b : Addr) (kvs kws : List (Key × V)), x = .ref a ∧ vs = [.ref b] ∧ H a = some (.dK kvs) ∧ H b = some (.dK kws) ∧ a ≠ b ∧ kvs.length + kws.length ≤ sizeLine ∧ Q .non (upd H a (.dK (mergeK kvs kws)))
theorem mtd_update : MtR X "dict.update" rDUpd := by
  intro pins s σ H x vs v us Q I rx rv h
  obtain ⟨a, b, kvs, kws, ex, ev, ea, eb, hne, hl, q⟩ := h
  subst ex
  subst ev
  obtain rfl : v = Value.ref a := rx
  cases rv with
  | cons r1 r2 =>
    cases r2
    cases r1
    obtain ⟨z, hd, vs, rel, dd⟩ := dk_of I.hok ea
    obtain ⟨z2, hd2, vs2, rel2, dd2⟩ := dk_of I.hok eb
    refine call_meetsIn PySem.F.slot_dict_update dd.typeIs PySem.F.entry_dict_update (PySem.F.args_dict_update_2 _ _) (meets_dict_update (mixKind X.prog X.w) a b hne hd2)
      ⟨vs, vs2, dd, dd2, by rw [← rel.length, ← rel2.length]; exact hl, fun h' dd' _ hs => ?_⟩
    have he : ∃ q, h'.get? a = some q := let ⟨q, _, _, hq, _⟩ := dd'; ⟨q, hq⟩
    exact ⟨.non, _, d_write (t' := s.toks) I (by rw [ea]; exact True.intro) hs he (dk_new (Nat.le_trans (length_mergeK kws kvs) hl) hd (KV.merge rel2 rel) dd'), rfl, q⟩
end
end FL
namespace K23
open PySem PySem.Spec PyProof.Rows L2 FL
def topS (i : Nat) : Stmt := PySem.Challenge.pw_frontlines_k23_whole_products.main.body.getD i (.Pass ⟨0, 0, 0, 0⟩)
end K23
namespace K23
open PySem PySem.Spec PyProof.Rows L2 FL
abbrev sDraw : Stmt := topS 53
section
variable {P : Program} {w : World} {K : PySem.W.Frag} {mg : Str → Option Value} {base : Heap}
theorem scDraw : FnScope ["_law_pot_here", "_law_much", "_law_digit"] ["_law_pot_here", "_law_much"] (defScope sDraw) :=
  ⟨rfl, rfl, rfl, by decide +kernel, rfl, by decide +kernel, by decide +kernel⟩
theorem ok_draw {f : Addr} {fd : FuncData} (F : Fun K "_law_draw" "_law_draw" sDraw f fd)
    (mD : mg "divmod" = none) (mI : mg "int" = none) :
    FnOk P w K mg base CX0 1 f fd ["_law_pot_here", "_law_much"] spDraw := by
  refine F.ok scDraw (fun vs H Q E h => ?_) (fun cdv A outer s H vs Q E hr h => ?_)
  · obtain ⟨p, n, rfl, _⟩ := h
    rfl
  · obtain ⟨p, n, rfl, ⟨a, b, hp, a0, b0, b1⟩, n0, n1, k⟩ := h
    refine ⟨_, pss_cons (ps_if (pt_cmpR op_gt (pe_ix ix_list (pv 0) pe_int (fun _ _ => rfl)) pe_int (nomark _))
        (pss_cons (ps_asg (pe_callB call_divmod (by rfl) mD (by decide +kernel)
            (pa_cons (pe_ix ix_list (pv 0) pe_int (fun _ _ => rfl)) (pa_cons (pv 1) pa_nil)))
            (pg_tup rfl (pgs_cons (pg_sub (pv 0) pe_int set_list) (pgs_cons (pg_name (i := 2) scDraw.nd rfl (.inl rfl)) pgs_nil))))
          (pss_one (ps_ret (pv 2)))) pss_nil)
      (pss_cons (ps_asg (pe_op op_mod (pe_callTy call_int1 (by rfl) mI (by decide +kernel)
            (pa_cons (pe_op op_add (pe_op op_mul (pe_ix ix_list (pv 0) pe_int (fun _ _ => rfl)) pe_int) pe_int) pa_nil)) pe_int)
          (pg_sub (pv 0) pe_int set_list))
      (pss_one (ps_ret (pe_op op_mod (pe_callTy call_int1 (by rfl) mI (by decide +kernel)
        (pa_cons (pe_op op_fdiv (pe_op op_mod (pe_callTy call_int1 (by rfl) mI (by decide +kernel)
          (pa_cons (pe_op op_mul (pe_ix ix_list (pv 0) pe_int (fun _ _ => rfl)) (pe_ix ix_list (pv 0) pe_int (fun _ _ => rfl))) pa_nil)) pe_int) pe_int) pa_nil)) (pv 1))))), ?_⟩
    refine ⟨_, rfl, p, _, _, .int a, rfl, rfl, SqL.of hp, rfl, _, _, rfl, rfl, _, rfl, ?_⟩
    refine ite2 (fun hc => ?_) (fun hc => ?_)
    · refine ⟨_, rfl, p, _, _, .int a, rfl, rfl, SqL.of hp, rfl, _, rfl, a, n, rfl, ⟨n0, n1⟩, fun q hq => ?_⟩
      have npq : p ≠ q := ne_of_none hp hq
      have hp1 : upd H q (.tup [.int (a / n), .int (a % n)]) p = some (.lst [.int a, .int b]) := by
        rw [upd_ne npq]
        exact hp
      refine ⟨q, _, rfl, SqT.of upd_same, rfl, _, _, rfl, _, rfl, p, _, _, 0, rfl, rfl, hp1, rfl, _, _, rfl, rfl, _, rfl, ?_⟩
      refine k (a % n) _ (Int.emod_nonneg _ (by omega)) (Int.emod_lt_of_pos _ n0) ?_ fun c o e nc => ?_
      · exact ⟨a / n, b, upd_same, Int.ediv_nonneg a0 (by omega), b0, b1⟩
      · rw [upd_ne nc, upd_ne (ne_of_none e hq)]
        exact e
    · refine ⟨_, rfl, p, _, _, .int b, rfl, rfl, SqL.of hp, rfl, _, _, rfl, rfl, .inl ⟨by omega, by omega⟩, _, _, rfl, rfl, .inl ⟨_, rfl, _, _, rfl, rfl, (by show (0 : Int) < 2147483587; decide), ?_⟩⟩
      refine ⟨_, rfl, p, _, _, 1, rfl, rfl, hp, rfl, ?_⟩
      have c0 : 0 ≤ (b * 39979 + 20021) % 2147483587 := Int.emod_nonneg _ (by decide)
      have c1 : (b * 39979 + 20021) % 2147483587 < 2147483587 := Int.emod_lt_of_pos _ (by decide)
      refine ⟨_, rfl, p, _, _, _, rfl, rfl, SqL.of upd_same, rfl, _, rfl, p, _, _, _, rfl, rfl, SqL.of upd_same, rfl, _, _, rfl, rfl, .inl ⟨Int.lt_of_lt_of_le (by decide) c0, Int.lt_trans c1 (by decide)⟩, .inl ⟨_, rfl, _, _, rfl, rfl, (by show (0 : Int) < 2147483549; decide), _, _, rfl, rfl, ⟨by decide, by decide⟩, .inl ⟨_, rfl, _, rfl, _, _, rfl, rfl, n0, ?_⟩⟩⟩
      refine k _ _ (Int.emod_nonneg _ (by omega)) (Int.emod_lt_of_pos _ n0) ?_ fun c o e nc => ?_
      · exact ⟨a, _, upd_same, a0, c0, by omega⟩
      · rw [upd_ne nc]
        exact e
end
end K23
namespace K23
open PySem PySem.Spec PyProof.Rows L2 FL
abbrev sPot : Stmt := topS 52
abbrev sPick : Stmt := topS 54
section
variable {P : Program} {w : World} {K : PySem.W.Frag} {mg : Str → Option Value} {base : Heap}
theorem scPick : FnScope ["_law_pot_here", "_law_some"] ["_law_pot_here", "_law_some"] (defScope sPick) :=
  ⟨rfl, rfl, rfl, by decide +kernel, rfl, by decide +kernel, by decide +kernel⟩
theorem ok_pick {f g : Addr} {fd gd : FuncData} (F : Fun K "_law_pick" "_law_pick" sPick f fd)
    (G : FnOk P w K mg base CX0 1 g gd ["_law_pot_here", "_law_much"] spDraw) (bG : Binds K gd ["_law_pot_here", "_law_much"] [])
    (kG : PySem.W.keepIn K (.ref g) = true) (mG : mg "_law_draw" = some (.ref g)) (mL : mg "len" = none) :
    FnOk P w K mg base CX0 2 f fd ["_law_pot_here", "_law_some"] (spPick K) := by
  refine F.ok scPick (fun vs H Q E h => ?_) (fun cdv A outer s H vs Q E hr h => ?_)
  · obtain ⟨p, v, rfl, _⟩ := h
    rfl
  · obtain ⟨p, v, rfl, hp, h⟩ := h
    refine ⟨_, pss_one (ps_ret (pe_ix ix_seq (pv 1) (pe_call G hr (by rfl) mG kG bG .nil pass0
      (pa_cons (pv 0) (pa_cons (pe_callB call_len (by rfl) mL PySem.boot_len (pa_cons (pv 1) pa_nil)) pa_nil))) (fun _ _ => rfl))), ?_⟩
    rcases h with ⟨q, xs, rfl, nq, hq, l0, l1, k⟩ | ⟨z, rfl, l0, l1, k⟩
    · refine ⟨_, rfl, _, rfl, _, rfl, _, xs.length, rfl, .inl ⟨_, hq, rfl⟩, p, (xs.length : Int), rfl, hp, by omega, by omega, fun d H' d0 d1 hp' bt => ?_⟩
      obtain ⟨x, hx, e⟩ := atI_lt d0 d1
      exact .inl ⟨q, xs, d, x, rfl, rfl, bt.sqL nq hq, e, k x H' hx hp' bt⟩
    · refine ⟨_, rfl, _, rfl, _, rfl, _, z.length, rfl, ⟨Nat.le_trans l1 (by decide), rfl⟩, p, (z.length : Int), rfl, hp, by omega, by omega, fun d H' d0 d1 hp' bt => ?_⟩
      rw [str_len] at d1
      obtain ⟨x, hx, e⟩ := atI_lt d0 d1
      exact .inr (.inr ⟨z, d, x, rfl, rfl, Nat.le_trans l1 (by decide), e, k x H' hx hp' bt⟩)
theorem scPot : FnScope ["_law_script", "_law_k", "_law_cell"] ["_law_script", "_law_k"] (defScope sPot) :=
  ⟨rfl, rfl, rfl, by decide +kernel, rfl, by decide +kernel, by decide +kernel⟩
theorem ok_pot {f : Addr} {fd : FuncData} (F : Fun K "_law_pot" "_law_pot" sPot f fd)
    (mA : mg "abs" = none) (mL : mg "len" = none) (mM : mg "max" = none) (mI : mg "int" = none) :
    FnOk P w K mg base CX0 1 f fd ["_law_script", "_law_k"] (spPot K) := by
  refine F.ok scPot (fun vs H Q E h => ?_) (fun cdv A outer s H vs Q E hr h => ?_)
  · obtain ⟨_, _, _, rfl, _⟩ := h
    rfl
  · obtain ⟨a, ns, j, rfl, hs, j0, j1, hn, k⟩ := h
    refine ⟨_, pss_cons (ps_set (i := 2) scPot.nd rfl (.inl rfl)
        (pe_ifExp (pt_cmpR op_lt (pv 1) (pe_callB call_len (by rfl) mL PySem.boot_len (pa_cons (pv 0) pa_nil)) (nomark _))
          (pe_callB call_abs (by rfl) mA (by decide +kernel) (pa_cons (pe_ix ix_list (pv 0) (pv 1) (fun _ _ => rfl)) pa_nil))
          (pe_op op_add (pe_op op_mul pe_int (pv 1)) pe_int)))
      (pss_one (ps_ret (pe_lst (pa_cons (pe_callB (call_max2 rfl) (by rfl) mM (by decide +kernel)
          (pa_cons pe_int (pa_cons (pe_op op_sub (pv 2) (pe_op op_pow pe_int pe_int)) pa_nil)))
        (pa_cons (pe_op op_add (pe_op op_mod (pe_callTy call_int1 (by rfl) mI (by decide +kernel)
          (pa_cons (pe_op op_add (pe_op op_add (pe_op op_mul (pe_op op_mod (pe_callTy call_int1 (by rfl) mI (by decide +kernel) (pa_cons (pv 2) pa_nil)) pe_int) pe_int)
            (pe_op op_mul pe_int (pv 1))) pe_int) pa_nil)) pe_int) pe_int) pa_nil))))), ?_⟩
    refine ⟨_, rfl, _, rfl, _, _, rfl, .inl ⟨_, hs, rfl⟩, _, _, rfl, rfl, _, rfl, ?_⟩
    refine ite2 (fun hc => ?A) (fun hc => ?B)
    case' A =>
      have hlt : j < ((ns.map V.int).length : Int) := of_decide_eq_true hc
      obtain ⟨x, hx, e⟩ := atI_lt j0 hlt
      obtain ⟨i, _, rfl⟩ := List.mem_map.mp hx
      refine ⟨_, rfl, _, rfl, a, _, j, .int i, rfl, rfl, hs, e, i, rfl, ?_⟩
      generalize (if i < 0 then -i else i) = z
    case' B =>
      refine ⟨_, rfl, _, _, rfl, rfl, .inl ⟨by decide, by decide⟩, _, _, rfl, rfl, ?_⟩
      generalize 29 * j + 13 = z
    all_goals
      refine ⟨_, rfl, _, _, rfl, rfl, ⟨by decide, by decide, by decide⟩, _, _, rfl, rfl, _, _, rfl, ?_⟩
      refine ⟨_, rfl, .inl ⟨_, rfl, _, _, rfl, rfl, (by show (0 : Int) < 2147483563; decide), _, _, rfl, rfl, .inr ⟨by decide, by decide⟩, _, rfl, _, _, rfl, rfl, .inl ⟨by decide, by decide⟩, _, _, rfl, rfl, _, _, rfl, rfl, .inl ⟨_, rfl, _, _, rfl, rfl, (by show (0 : Int) < 2147483629; decide), _, _, rfl, rfl, ?_⟩⟩⟩
      refine ⟨(by show 2 ≤ sizeLine; decide), fun p hp => ?_⟩
      refine k p _ hp ⟨_, _, upd_same, ?_, ?_, ?_⟩ fun c o e => ?_
      · split <;> omega
      · have := Int.emod_nonneg (z % 2147483563 * 40013 + 7919 * j + 59) (show (2147483629 : Int) ≠ 0 by decide)
        omega
      · have := Int.emod_lt_of_pos (z % 2147483563 * 40013 + 7919 * j + 59) (show (0 : Int) < 2147483629 by decide)
        omega
      · rw [upd_ne (ne_of_none e hp)]
        exact e
end
end K23
namespace K23
open PySem PySem.Spec PyProof.Rows L2 FL
abbrev sNote : Stmt := topS 57
section
variable {P : Program} {w : World} {K : PySem.W.Frag} {mg : Str → Option Value} {base : Heap}
theorem scNote : FnScope ["_law_pot_here", "_law_abc_here", "_law_most", "_law_turn_here"] ["_law_pot_here", "_law_abc_here", "_law_most"] (defScope sNote) :=
  ⟨rfl, rfl, rfl, by decide +kernel, rfl, by decide +kernel, by decide +kernel⟩
theorem ok_note {f g h : Addr} {fd gd hd : FuncData} (F : Fun K "_law_note" "_law_note" sNote f fd)
    (G : FnOk P w K mg base CX0 1 g gd ["_law_pot_here", "_law_much"] spDraw) (bG : Binds K gd ["_law_pot_here", "_law_much"] [])
    (kG : PySem.W.keepIn K (.ref g) = true) (mG : mg "_law_draw" = some (.ref g))
    (Hk : FnOk P w K mg base CX0 2 h hd ["_law_pot_here", "_law_some"] (spPick K)) (bH : Binds K hd ["_law_pot_here", "_law_some"] [])
    (kH : PySem.W.keepIn K (.ref h) = true) (mH : mg "_law_pick" = some (.ref h)) (mR : mg "range" = none) :
    FnOk P w K mg base CX0 3 f fd ["_law_pot_here", "_law_abc_here", "_law_most"] spNote := by
  refine F.ok scNote (fun vs H Q E h => ?_) (fun cdv A outer s H vs Q E hr h => ?_)
  · obtain ⟨_, _, _, rfl, _⟩ := h
    rfl
  · obtain ⟨p, z, m, rfl, hp, z0, z1, m0, m1, k⟩ := h
    refine ⟨_, pss_one (ps_ret (pe_join pe_str (pe_lc (own := [("_law_turn_here", 3)]) (g := gName 3) (tt := tYes) rfl scNote.nd
        (pi_range1 (by rfl) mR (pa_cons (pe_call G (hr.mono (by decide)) (by rfl) mG kG bG .nil pass0 (pa_cons (pv 0) (pa_cons (pe_op op_add (pv 2) pe_int) pa_nil))) pa_nil))
        (blkOk_by (N := ["_law_pot_here", "_law_abc_here", "_law_most", "_law_turn_here"]) (sc := defScope sNote) (by decide +kernel))
        (fun _ _ _ _ _ => pg_name (i := 3) scNote.nd rfl (Or.inl rfl)) (fun _ _ _ _ _ => pts_nil)
        (fun _ _ _ _ _ => pe_call Hk hr (by rfl) mH kH bH .nil pass0 (pa_cons (pv 0) (pa_cons (pv 1) pa_nil)))))), ?_⟩
    refine ⟨⟨_, rfl⟩, _, rfl, _, rfl, _, _, rfl, rfl, p, m + 1, rfl, hp, by omega, by omega, fun d H1 d0 d1 hp1 b1 => ?_⟩
    refine ⟨d, rfl, by omega, by omega, fun D hD => ?_⟩
    have npD : p ≠ D := hp1.ne hD
    refine lc_range (lo := 0) (n := d.toNat) (fun i Hi => PotAt Hi p ∧ But p H1 Hi ∧ ∃ cs : List Nat, Hi D = some (.lst (cs.map sign)) ∧ cs.length = i ∧ ∀ c ∈ cs, c ∈ z.cps.toList) ?_ ?_ ?_
    · exact ⟨hp1.upd npD, (But.refl p H1).upd hD, [], upd_same, rfl, fun _ h => nomatch h⟩
    · rintro i Hi hi ⟨hpi, bi, cs, hDi, hl, hc⟩
      refine ⟨rfl, ?_⟩
      refine ⟨_, rfl, _, rfl, p, _, rfl, hpi, .inr ⟨z, rfl, z0, z1, fun c H2 cz hp2 b2 => ?_⟩⟩
      refine ⟨cs.map sign, b2 D _ hDi (Ne.symm npD), ?_, hp2.upd npD, fun a o e na => ?_, cs ++ [c], ?_, ?_, ?_⟩
      · rw [List.length_map, hl]
        exact Nat.lt_of_lt_of_le (show i < 2000 by omega) (by decide)
      · rw [upd_ne (ne_of_none e hD)]
        exact b2 a o (bi a o e na) na
      · rw [upd_same, List.map_append]
        rfl
      · rw [List.length_append, hl]
        rfl
      · intro c' hc'
        rcases List.mem_append.mp hc' with h | h
        · exact hc c' h
        · rw [List.mem_singleton.mp h]
          exact cz
    · rintro Hi ⟨hpi, bi, cs, hDi, hl, hc⟩
      have e1 : cs.map sign = (cs.map fun c => (⟨#[c]⟩ : Str)).map V.str := by
        rw [List.map_map]
        rfl
      rw [e1] at hDi
      refine ⟨Str.ofString "", D, cs.map fun c => (⟨#[c]⟩ : Str), rfl, rfl, .inl (SqL.of hDi), ?_, ?_⟩
      · have e2 : ((cs.map fun c => (⟨#[c]⟩ : Str)).map (·.length)).sum = cs.length := by
          rw [List.map_map]
          clear hDi hl hc e1
          induction cs with
          | nil => rfl
          | cons c cs ih =>
            rw [List.map_cons, List.sum_cons, ih, List.length_cons, Nat.add_comm]
            rfl
        have e3 : (Str.ofString "").length = 0 := by decide +kernel
        rw [e2, e3, hl]
        omega
      · rw [join_signs]
        refine k _ Hi (fun c h => hc c (by simpa using h)) ?_ hpi (b1.trans bi)
        show ((cs.toArray.size : Nat) : Int) ≤ m
        rw [List.size_toArray]
        omega
end
end K23
namespace FL
open PySem PySem.Spec PyProof.Rows L2
def spMixed (K : PySem.W.Frag) : Sp := fun vs H Q _ => ∃ (p q : Addr) (xs : List V), vs = [.ref p, .ref q] ∧ PotAt H p ∧ SqL K H q xs ∧ q ≠ p ∧ xs.length ≤ 1000 ∧
  ∀ (D : Addr) (ys : List V) (H' : Hp), (∀ y ∈ ys, y ∈ xs) → ys.length = xs.length → H D = none → H' D = some (.lst ys) → PotAt H' p → But p H H' → Q (.ref D) H'
theorem seqIx {n : Nat} {d : Int} (h0 : 0 ≤ d) (h1 : d < (n : Int)) : seqIndex? d n = some d.toNat := by
  unfold seqIndex?
  simp
  omega
end FL
namespace K23
open PySem PySem.Spec PyProof.Rows L2 FL
abbrev sMixed : Stmt := topS 55
section
variable {P : Program} {w : World} {K : PySem.W.Frag} {mg : Str → Option Value} {base : Heap}
theorem scMixed : FnScope ["_law_pot_here", "_law_some", "_law_pack", "_law_turn_here"] ["_law_pot_here", "_law_some"] (defScope sMixed) :=
  ⟨rfl, rfl, rfl, by decide +kernel, rfl, by decide +kernel, by decide +kernel⟩
theorem ok_mixed {f g : Addr} {fd gd : FuncData} (F : Fun K "_law_mixed" "_law_mixed" sMixed f fd)
    (G : FnOk P w K mg base CX0 1 g gd ["_law_pot_here", "_law_much"] spDraw) (bG : Binds K gd ["_law_pot_here", "_law_much"] [])
    (kG : PySem.W.keepIn K (.ref g) = true) (mG : mg "_law_draw" = some (.ref g))
    (mL : mg "list" = none) (mN : mg "len" = none) (mR : mg "range" = none) :
    FnOk P w K mg base CX0 2 f fd ["_law_pot_here", "_law_some"] (spMixed K) := by
  refine F.ok scMixed (fun vs H Q E h => ?_) (fun cdv A outer s H vs Q E hr h => ?_)
  · obtain ⟨_, _, _, rfl, _⟩ := h
    rfl
  · obtain ⟨p, q, xs, rfl, hp, hq, nq, lx, k⟩ := h
    refine ⟨_, pss_cons (ps_set (i := 2) scMixed.nd rfl (.inr rfl) (pe_callTy call_list_of (by rfl) mL (by decide +kernel) (pa_cons (pv 1) pa_nil)))
      (pss_one (ps_ret (pe_lc (own := [("_law_turn_here", 3)]) (g := gName 3) (tt := tYes) (te := tBM K "list" rPopAt (tVar 2) (tCons (tCall spDraw [] E0 (tCons (tVar 0) (tCons (tCB (FL.rLen K) (tCons (tVar 2) tNil)) tNil))) tNil)) rfl scMixed.nd
        (pi_range1 (by rfl) mR (pa_cons (pe_callB callLen (by rfl) mN PySem.boot_len (pa_cons (pv 1) pa_nil)) pa_nil))
        (blkOk_by (N := ["_law_pot_here", "_law_some", "_law_pack", "_law_turn_here"]) (sc := defScope sMixed) (by decide +kernel))
        (fun _ _ _ _ _ => pg_name (i := 3) scMixed.nd rfl (Or.inl rfl)) (fun _ _ _ _ _ => pts_nil)
        (fun _ _ _ _ _ => pe_bm PySem.F.plainAttrs_list PySem.F.slot_list_pop PySem.F.type_list_pop mtPopAt (pv 2)
          (pa_cons (pe_call G hr (by rfl) mG kG bG .nil pass0 (pa_cons (pv 0) (pa_cons (pe_callB callLen (by rfl) mN PySem.boot_len (pa_cons (pv 2) pa_nil)) pa_nil))) pa_nil))))), ?_⟩
    refine ⟨_, rfl, q, xs, rfl, .inl hq, fun B hB => ?_⟩
    have npB : p ≠ B := hp.ne hB
    refine ⟨_, rfl, _, xs.length, rfl, .inl ⟨_, sqL_upd hq hB, rfl⟩, (xs.length : Int), rfl, by omega, by omega, fun D hD => ?_⟩
    have hDB : D ≠ B := fun e => by
      rw [e, upd_same] at hD
      cases hD
    have hD0 : H D = none := by
      rw [upd_ne hDB] at hD
      exact hD
    have npD : p ≠ D := hp.ne hD0
    refine lc_range (lo := 0) (n := ((xs.length : Nat) : Int).toNat) (fun i Hi => PotAt Hi p ∧ But p H Hi ∧ ∃ rest acc : List V, Hi B = some (.lst rest) ∧ Hi D = some (.lst acc)
      ∧ acc.length = i ∧ rest.length + i = xs.length ∧ (∀ y ∈ rest, y ∈ xs) ∧ ∀ y ∈ acc, y ∈ xs) ?_ ?_ ?_
    · refine ⟨(hp.upd npB).upd npD, ((But.refl p H).upd hB).upd hD0, xs, [], ?_, upd_same, rfl, rfl, fun _ h => h, fun _ h => nomatch h⟩
      rw [upd_ne (Ne.symm hDB), upd_same]
    · rintro i Hi hi ⟨hpi, bi, rest, acc, hr1, ha, l1, l2, m1, m2⟩
      refine ⟨rfl, ?_⟩
      refine ⟨_, rfl, .inl ⟨rfl, _, SqL.of hr1⟩, _, rfl, _, rfl, _, rest.length, rfl, .inl ⟨_, SqL.of hr1, rfl⟩, p, (rest.length : Int), rfl, hpi, by omega, by omega, fun d H2 d0 d1 hp2 b2 => ?_⟩
      have hB2 := b2 B _ hr1 (Ne.symm npB)
      have hD2 := b2 D _ ha (Ne.symm npD)
      have hlt : d.toNat < rest.length := by omega
      refine ⟨B, rest, d, d.toNat, rest[d.toNat], rfl, rfl, hB2, by omega, by omega, seqIx d0 d1, List.getElem?_eq_getElem hlt, ?_⟩
      refine ⟨acc, by rw [upd_ne hDB]; exact hD2, ?_, ?_, ?_, rest.eraseIdx d.toNat, acc ++ [rest[d.toNat]], ?_, upd_same, ?_, ?_, ?_, ?_⟩
      · exact Nat.lt_of_lt_of_le (show acc.length < 2000 by omega) (by decide)
      · exact (hp2.upd npB).upd npD
      · exact ((bi.trans b2).upd hB).upd hD0
      · rw [upd_ne (Ne.symm hDB), upd_same]
      · rw [List.length_append, l1]
        rfl
      · rw [List.length_eraseIdx_of_lt hlt]
        omega
      · intro y hy
        exact m1 y (List.mem_of_mem_eraseIdx hy)
      · intro y hy
        rcases List.mem_append.mp hy with h | h
        · exact m2 y h
        · rw [List.mem_singleton.mp h]
          exact m1 _ (List.getElem_mem hlt)
    · rintro Hi ⟨hpi, bi, rest, acc, hr1, ha, l1, l2, m1, m2⟩
      exact k D acc Hi m2 (by omega) hD0 ha hpi bi
end
end K23
namespace K23
open PySem PySem.Spec PyProof.Rows L2 FL
abbrev sAbc : Stmt := topS 56
section
variable {P : Program} {w : World} {K : PySem.W.Frag} {mg : Str → Option Value} {base : Heap}
theorem pool_eq : (Str.ofString "-.0123456789=>abcdefghijklmnopqrstuvwxyz|").cps.toList = poolCodes := by decide +kernel
theorem scAbc : FnScope ["_law_pot_here", "_law_most", "_law_pool", "_law_found", "_law_turn_here"] ["_law_pot_here", "_law_most"] (defScope sAbc) :=
  ⟨rfl, rfl, rfl, by decide +kernel, rfl, by decide +kernel, by decide +kernel⟩
theorem ok_abc {f g : Addr} {fd gd : FuncData} (F : Fun K "_law_abc" "_law_abc" sAbc f fd)
    (G : FnOk P w K mg base CX0 1 g gd ["_law_pot_here", "_law_much"] spDraw) (bG : Binds K gd ["_law_pot_here", "_law_much"] [])
    (kG : PySem.W.keepIn K (.ref g) = true) (mG : mg "_law_draw" = some (.ref g))
    (mL : mg "list" = none) (mN : mg "len" = none) (mR : mg "range" = none) (mS : mg "sorted" = none) :
    FnOk P w K mg base CX0 2 f fd ["_law_pot_here", "_law_most"] spAbc := by
  refine F.ok scAbc (fun vs H Q E h => ?_) (fun cdv A outer s H vs Q E hr h => ?_)
  · obtain ⟨_, rfl, _⟩ := h
    rfl
  · obtain ⟨p, rfl, hp, k⟩ := h
    refine ⟨_, pss_cons (ps_par (i := 2) (j := 3) (by rfl) scAbc.nd rfl rfl (by decide) rfl rfl
        (pa_cons (pe_callTy (call_list_txt rfl) (by rfl) mL (by decide +kernel) (pa_cons pe_str pa_nil)) (pa_cons (pe_lst pa_nil) pa_nil)) (by rfl))
      (pss_cons (ps_for PassesOwn.never rfl (pi_range1 (by rfl) mR (pa_cons (pe_op op_add pe_int (pe_call G hr (by rfl) mG kG bG .nil pass0
            (pa_cons (pv 0) (pa_cons (pe_op op_sub (pv 1) pe_int) pa_nil)))) pa_nil)) (pg_name (i := 4) scAbc.nd rfl (.inl rfl))
        (pss_one (ps_expr (pe_bm PySem.F.plainAttrs_list PySem.F.slot_list_append PySem.F.type_list_append mtAppend (pv 3)
          (pa_cons (pe_bm PySem.F.plainAttrs_list PySem.F.slot_list_pop PySem.F.type_list_pop mtPopAt (pv 2)
            (pa_cons (pe_call G hr (by rfl) mG kG bG .nil pass0 (pa_cons (pv 0) (pa_cons (pe_callB callLen (by rfl) mN PySem.boot_len (pa_cons (pv 2) pa_nil)) pa_nil))) pa_nil)) pa_nil)))))
      (pss_one (ps_ret (pe_join pe_str (pe_callB cr_sortedS (by rfl) mS (by decide +kernel) (pa_cons (pv 3) pa_nil)))))), ?_⟩
    refine ⟨_, rfl, by decide, fun B hB => ?_⟩
    refine ⟨by decide, fun D hD => ?_⟩
    rw [pool_eq] at *
    have hDB : D ≠ B := fun e => by
      rw [e, upd_same] at hD
      cases hD
    have hD0 : H D = none := by
      rw [upd_ne hDB] at hD
      exact hD
    have npB : p ≠ B := hp.ne hB
    have npD : p ≠ D := hp.ne hD0
    have hp0 : PotAt (upd (upd H B (.lst (poolCodes.map sign))) D (.lst [])) p := (hp.upd npB).upd npD
    refine ⟨_, _, rfl, _, rfl, _, rfl, _, _, rfl, rfl, p, 3, rfl, hp0, by decide, by decide, fun d H1 d0 d1 hp1 b1 => ?_⟩
    refine ⟨2, d, rfl, rfl, 2 + d, rfl, by omega, by omega, ?_⟩
    have bB := b1 B _ (by rw [upd_ne (Ne.symm hDB), upd_same]) (Ne.symm npB)
    have bD := b1 D _ upd_same (Ne.symm npD)
    have b0 : But p H H1 := (((But.refl p H).upd hB).upd hD0).trans b1
    refine for_range (lo := 0) (n := (2 + d).toNat) (fun i σ Hi => ∃ (o : Option V) (rest cs : List Nat), σ = [some (.ref p), some (.int 4), some (.ref B), some (.ref D), o]
      ∧ PotAt Hi p ∧ But p H Hi ∧ Hi B = some (.lst (rest.map sign)) ∧ Hi D = some (.lst (cs.map sign)) ∧ cs.length = i ∧ (cs ++ rest).Perm poolCodes) ?_ ?_ ?_
    · exact ⟨_, poolCodes, [], rfl, hp1, b0, bB, bD, rfl, List.Perm.refl _⟩
    · rintro i σ Hi hi ⟨o, rest, cs, rfl, hpi, bi, hBi, hDi, hl, hpm⟩
      have lr : cs.length + rest.length = 41 := by
        have := hpm.length_eq
        rw [List.length_append] at this
        rw [this]
        decide +kernel
      refine ⟨_, rfl, .inl ⟨rfl, _, SqL.of hDi⟩, _, rfl, .inl ⟨rfl, _, SqL.of hBi⟩, _, rfl, _, rfl, _, _, rfl, .inl ⟨_, SqL.of hBi, rfl⟩, p, _, rfl, hpi, ?_, ?_, fun e H2 e0 e1 hp2 b2 => ?_⟩
      · rw [List.length_map]
        omega
      · rw [List.length_map]
        omega
      rw [List.length_map] at e1
      have hlt : e.toNat < rest.length := by omega
      have hB2 := b2 B _ hBi (Ne.symm npB)
      have hD2 := b2 D _ hDi (Ne.symm npD)
      refine ⟨B, _, e, e.toNat, sign rest[e.toNat], rfl, rfl, hB2, by omega, by omega, seqIx e0 (by rw [List.length_map]; exact e1), ?_, ?_⟩
      · rw [List.getElem?_map, List.getElem?_eq_getElem hlt]
        rfl
      refine ⟨D, _, _, rfl, rfl, by rw [upd_ne hDB]; exact hD2, ?_, ?_⟩
      · rw [List.length_map]
        exact Nat.lt_of_lt_of_le (show cs.length < 2000 by omega) (by decide)
      refine ⟨_, rest.eraseIdx e.toNat, cs ++ [rest[e.toNat]], rfl, (hp2.upd npB).upd npD, ((bi.trans b2).upd hB).upd hD0, ?_, ?_, ?_, ?_⟩
      · rw [upd_ne (Ne.symm hDB), upd_same, erase_map]
      · rw [upd_same, List.map_append]
        rfl
      · rw [List.length_append, hl]
        rfl
      · rw [List.append_assoc]
        exact ((perm_erase rest e.toNat hlt).append_left cs).trans hpm
    · rintro σ Hi ⟨o, rest, cs, rfl, hpi, bi, hBi, hDi, hl, hpm⟩
      have e1 : cs.map sign = (cs.map one).map V.str := by
        rw [List.map_map]
        rfl
      rw [e1] at hDi
      refine ⟨⟨_, rfl⟩, _, rfl, D, cs.map one, rfl, SqL.of hDi, ?_, fun ys q pm so hq => ?_⟩
      · rw [List.length_map]
        omega
      obtain ⟨ds, rfl, pd⟩ := map_one pm
      have ld : ds.length = (2 + d).toNat := pd.length_eq.trans hl
      refine ⟨_, q, ds.map one, rfl, rfl, .inl (SqL.of upd_same), ?_, ?_⟩
      · have e2 : ((ds.map one).map (·.length)).sum = ds.length := by
          rw [List.map_map]
          clear pm so ld pd
          induction ds with
          | nil => rfl
          | cons c ds ih =>
            rw [List.map_cons, List.sum_cons, ih, List.length_cons, Nat.add_comm]
            rfl
        have e3 : (Str.ofString "").length = 0 := by decide +kernel
        rw [e2, e3]
        omega
      · have ej : Txt.join (Str.ofString "") (ds.map one) = ⟨ds.toArray⟩ := join_signs ds
        rw [ej]
        have nd : (cs ++ rest).Nodup := hpm.symm.nodup pool_nodup
        have nds : ds.Nodup := pd.symm.nodup (List.nodup_append.mp nd).1
        refine k _ _ ⟨?_, ?_, ?_, ?_⟩ (hpi.upd (hpi.ne hq)) (fun c u ec nc => ?_)
        · show 2 ≤ ds.toArray.size
          rw [List.size_toArray]
          omega
        · show ds.toArray.size ≤ 4
          rw [List.size_toArray]
          omega
        · exact strict (sorted_one ds so) nds
        · intro c hc
          exact hpm.mem_iff.mp (List.mem_append_left _ (pd.mem_iff.mp (by simpa using hc)))
        · rw [upd_ne (ne_of_none (bi c u ec nc) hq)]
          exact bi c u ec nc
end
end K23
namespace K23
open PySem PySem.Spec PyProof.Rows L2 FL
abbrev sDeals : Stmt := topS 58
section
variable {P : Program} {w : World} {K : PySem.W.Frag} {mg : Str → Option Value} {base : Heap}
theorem scDeals : FnScope ["_law_pot_here", "_law_abc_here", "_law_lot", "_law_most", "_law_found", "_law_turn_here", "_law_old", "_law_way", "_law_letter", "_law_new"]
    ["_law_pot_here", "_law_abc_here", "_law_lot", "_law_most"] (defScope sDeals) :=
  ⟨rfl, rfl, rfl, by decide +kernel, rfl, by decide +kernel, by decide +kernel⟩
theorem ok_deals {f g h e : Addr} {fd gd hd ed : FuncData} (F : Fun K "_law_deals" "_law_deals" sDeals f fd)
    (G : FnOk P w K mg base CX0 1 g gd ["_law_pot_here", "_law_much"] spDraw) (bG : Binds K gd ["_law_pot_here", "_law_much"] [])
    (kG : PySem.W.keepIn K (.ref g) = true) (mG : mg "_law_draw" = some (.ref g))
    (Hk : FnOk P w K mg base CX0 2 h hd ["_law_pot_here", "_law_some"] (spPick K)) (bH : Binds K hd ["_law_pot_here", "_law_some"] [])
    (kH : PySem.W.keepIn K (.ref h) = true) (mH : mg "_law_pick" = some (.ref h))
    (Ek : FnOk P w K mg base CX0 3 e ed ["_law_pot_here", "_law_abc_here", "_law_most"] spNote) (bE : Binds K ed ["_law_pot_here", "_law_abc_here", "_law_most"] [])
    (kE : PySem.W.keepIn K (.ref e) = true) (mE : mg "_law_note" = some (.ref e)) (mR : mg "range" = none) :
    FnOk P w K mg base CX0 4 f fd ["_law_pot_here", "_law_abc_here", "_law_lot", "_law_most"] spDeals := by
  refine F.ok scDeals (fun vs H Q E h => ?_) (fun cdv A outer s H vs Q E hr h => ?_)
  · obtain ⟨_, _, _, _, rfl, _⟩ := h
    rfl
  · obtain ⟨p, z, lot, most, rfl, hp, z0, z1, l0, l1, m0, m1, k⟩ := h
    have hr1 := hr.mono (show 1 ≤ 3 by decide)
    have hr2 := hr.mono (show 2 ≤ 3 by decide)
    refine ⟨_, pss_cons (ps_set (i := 4) scDeals.nd rfl (.inl rfl) (pe_lst pa_nil))
      (pss_cons (ps_for PassesOwn.never rfl (pi_range1 (by rfl) mR (pa_cons (pe_call G hr1 (by rfl) mG kG bG .nil pass0
          (pa_cons (pv 0) (pa_cons (pe_op op_add (pv 2) pe_int) pa_nil))) pa_nil)) (pg_name (i := 5) scDeals.nd rfl (.inl rfl))
        (pss_cons (ps_par (i := 6) (j := 7) (by rfl) scDeals.nd rfl rfl (by decide) rfl rfl
          (pa_cons (pe_call Ek hr (by rfl) mE kE bE .nil pass0 (pa_cons (pv 0) (pa_cons (pv 1) (pa_cons (pv 3) pa_nil))))
            (pa_cons (pe_call G hr1 (by rfl) mG kG bG .nil pass0 (pa_cons (pv 0) (pa_cons pe_int pa_nil))) pa_nil)) (by rfl))
        (pss_cons (ps_par (i := 8) (j := 9) (by rfl) scDeals.nd rfl rfl (by decide) rfl rfl
          (pa_cons (pe_call Hk hr2 (by rfl) mH kH bH .nil pass0 (pa_cons (pv 0) (pa_cons (pv 1) pa_nil)))
            (pa_cons (pe_call Ek hr (by rfl) mE kE bE .nil pass0 (pa_cons (pv 0) (pa_cons (pv 1) (pa_cons pe_int pa_nil)))) pa_nil)) (by rfl))
        (C8.pss_cut (ps_if (pt_cmpR op_gt (pv 7) pe_int (nomark _))
          (pss_one (ps_set (i := 9) scDeals.nd rfl (.inl rfl) (pe_ix ix_list (pe_lst (pa_cons (pe_op op_add_str (pv 8) (pv 6))
            (pa_cons (pe_slice sl_str (pv 6) (po_some pe_int) po_none) (pa_cons (pe_op op_add_str (pv 6) (pv 8)) (pa_cons (pe_revS (pv 6)) pa_nil)))))
            (pe_op op_sub (pv 7) pe_int) (fun _ _ => rfl)))) pss_nil)
        (pss_one (ps_expr (pe_bm PySem.F.plainAttrs_list PySem.F.slot_list_append PySem.F.type_list_append mtAppend (pv 4)
          (pa_cons (pe_tup (pa_cons (pe_call Hk hr2 (by rfl) mH kH bH .nil pass0 (pa_cons (pv 0) (pa_cons (pe_lst (pa_cons pe_str (pa_cons pe_str (pa_cons pe_str pa_nil)))) pa_nil)))
            (pa_cons (pv 6) (pa_cons (pv 9) pa_nil)))) pa_nil))))))))
      (pss_one (ps_ret (pv 4)))), ?_⟩
    refine ⟨by decide, fun D hD => ?_⟩
    have npD : p ≠ D := hp.ne hD
    refine ⟨_, rfl, _, rfl, _, _, rfl, rfl, p, lot + 1, rfl, hp.upd npD, by omega, by omega, fun d H1 d0 d1 hp1 b1 => ?_⟩
    refine ⟨d, rfl, by omega, by omega, ?_⟩
    have b0 : But p H H1 := ((But.refl p H).upd hD).trans b1
    refine for_range (lo := 0) (n := d.toNat) (fun i σ Hi => ∃ (o1 o2 o3 o4 o5 : Option V) (xs : List V) (rs : List Rule),
        σ = [some (.ref p), some (.str z), some (.int lot), some (.int most), some (.ref D), o1, o2, o3, o4, o5]
      ∧ PotAt Hi p ∧ But p H Hi ∧ Hi D = some (.lst xs) ∧ RulesAt Hi xs rs ∧ rs.length = i ∧ ∀ r ∈ rs, RuleOk z (most.toNat + 2) r) ?_ ?_ ?_
    · exact ⟨_, _, _, _, _, [], [], rfl, hp1, b0, b1 D _ upd_same (Ne.symm npD), .nil, rfl, fun _ h => nomatch h⟩
    · rintro i σ Hi hi ⟨o1, o2, o3, o4, o5, xs, rs, rfl, hpi, bi, hDi, hrs, hl, hok⟩
      refine ⟨_, rfl, _, rfl, _, rfl, p, z, most, rfl, hpi, z0, z1, m0, by omega, fun old H2 ov ol hp2 b2 => ?_⟩
      refine ⟨_, rfl, p, 5, rfl, hp2, by decide, by decide, fun way H3 w0 w1 hp3 b3 => ?_⟩
      refine ⟨_, _, rfl, _, rfl, _, rfl, p, _, rfl, hp3, .inr ⟨z, rfl, z0, z1, fun c H4 cz hp4 b4 => ?_⟩⟩
      refine ⟨_, rfl, _, rfl, p, z, 2, rfl, hp4, z0, z1, by decide, by decide, fun new H5 nv nl hp5 b5 => ?_⟩
      have b25 := ((b2.trans b3).trans b4).trans b5
      refine ⟨_, _, rfl, ?_⟩
      have ol' : old.length ≤ most.toNat := by omega
      have sz : sizeLine = 16777216 := rfl
      refine ⟨fun σ' H' => ∃ nw : Str, σ' = [some (.ref p), some (.str z), some (.int lot), some (.int most), some (.ref D), some (.int (0 + i)), some (.str old), some (.int way), some (.str ⟨#[c]⟩), some (.str nw)]
        ∧ Over z nw ∧ nw.length ≤ most.toNat + 2 ∧ PotAt H' p ∧ But p Hi H', ?_, ?_⟩
      · refine ⟨_, rfl, _, _, rfl, rfl, _, rfl, ?_⟩
        refine ite2 (fun hc => ?_) (fun hc => ?_)
        · have w2 : way > 0 := of_decide_eq_true hc
          refine ⟨_, rfl, _, rfl, _, _, rfl, rfl, (by rw [len_one, sz]; omega), _, rfl, 1, rfl, old, rfl, (by rw [sz]; omega), _, rfl, _, rfl, _, _, rfl, rfl, (by rw [len_one, sz]; omega), _, rfl, old, rfl, (by rw [sz]; omega), (by show 4 ≤ sizeLine; decide), fun L hL => ?_⟩
          have hpL := hp5.upd (o := .lst [V.str (⟨#[c]⟩ ++ old), V.str (cutS old (some 1) none), V.str (old ++ ⟨#[c]⟩), V.str ⟨old.cps.toList.reverse.toArray⟩]) (hp5.ne hL)
          have hbL : But p Hi (upd H5 L (.lst [V.str (⟨#[c]⟩ ++ old), V.str (cutS old (some 1) none), V.str (old ++ ⟨#[c]⟩), V.str ⟨old.cps.toList.reverse.toArray⟩])) := fun a u ea na => by
            have := b25 a u ea na
            rw [upd_ne (ne_of_none this hL)]
            exact this
          obtain ⟨x, hx, ex⟩ := atI_lt (xs := [V.str (⟨#[c]⟩ ++ old), V.str (cutS old (some 1) none), V.str (old ++ ⟨#[c]⟩), V.str ⟨old.cps.toList.reverse.toArray⟩]) (d := way - 1) (by omega) (by show way - 1 < 4; omega)
          refine ⟨_, rfl, _, _, rfl, rfl, L, _, _, x, rfl, rfl, SqL.of upd_same, ex, ?_⟩
          have hx' : ∃ nw : Str, x = .str nw ∧ Over z nw ∧ nw.length ≤ most.toNat + 2 := by
            simp only [List.mem_cons, List.mem_nil_iff, or_false] at hx
            rcases hx with rfl | rfl | rfl | rfl
            · exact ⟨_, rfl, over_app (over_one cz) ov, by rw [len_app, len_one]; omega⟩
            · exact ⟨_, rfl, over_cut ov _ _, Nat.le_trans (cutS_length _ _ _) (by omega)⟩
            · exact ⟨_, rfl, over_app ov (over_one cz), by rw [len_app, len_one]; omega⟩
            · exact ⟨_, rfl, over_rev ov, by rw [len_rev]; omega⟩
          obtain ⟨nw, rfl, h1, h2⟩ := hx'
          exact ⟨nw, rfl, h1, h2, hpL, hbL⟩
        · exact ⟨new, rfl, nv, by omega, hp5, b25⟩
      · rintro σ' H6 ⟨nw, rfl, h1, h2, hp6, b6⟩
        have hD6 := b6 D _ hDi (Ne.symm npD)
        refine ⟨_, rfl, .inl ⟨rfl, _, SqL.of hD6⟩, _, rfl, by decide, fun L hL => ?_⟩
        refine ⟨p, _, rfl, hp6.upd (hp6.ne hL), .inl ⟨L, _, rfl, Ne.symm (hp6.ne hL), SqL.of upd_same, by decide, by decide, fun x H7 hx hp7 b7 => ?_⟩⟩
        have hx' : ∃ b, x = .str (kd b) := by
          simp only [List.mem_cons, List.mem_nil_iff, or_false] at hx
          rcases hx with rfl | rfl | rfl
          · exact ⟨true, rfl⟩
          · exact ⟨true, rfl⟩
          · exact ⟨false, rfl⟩
        obtain ⟨kb, rfl⟩ := hx'
        refine ⟨_, rfl, _, rfl, (by show 3 ≤ sizeLine; decide), fun T hT => ?_⟩
        have b67 : But p Hi H7 := fun a u ea na => b7 a u (by
          have := b6 a u ea na
          rw [upd_ne (ne_of_none this hL)]
          exact this) na
        have hD7 := b67 D _ hDi (Ne.symm npD)
        have nDT : D ≠ T := ne_of_none hD7 hT
        have npT : p ≠ T := hp7.ne hT
        have lx := paired_len hrs
        refine ⟨D, xs, _, rfl, rfl, by rw [upd_ne nDT]; exact hD7, Nat.lt_of_lt_of_le (show xs.length < 2000 by omega) (by decide), ?_⟩
        refine ⟨_, _, _, _, _, xs ++ [.ref T], rs ++ [⟨kb, old, nw⟩], rfl, (hp7.upd npT).upd npD, ?_, upd_same, ?_, ?_, ?_⟩
        · intro a u ea na
          have e7 := b67 a u (bi a u ea na) na
          rw [upd_ne (ne_of_none ea hD), upd_ne (ne_of_none e7 hT)]
          exact e7
        · refine paired_snoc (RulesAt.imp hrs fun t a et => ?_) ⟨T, rfl, ?_⟩
          · have e7 := b67.tups hpi t a et
            have ntD : t ≠ D := ne_of e7 hD7 (by intro q; cases q)
            rw [upd_ne ntD, upd_ne (ne_of_none e7 hT)]
            exact e7
          · rw [upd_ne (Ne.symm nDT), upd_same]
            rfl
        · rw [List.length_append, hl]
          rfl
        · intro r hr'
          rcases List.mem_append.mp hr' with h | h
          · exact hok r h
          · rw [List.mem_singleton.mp h]
            exact ⟨ov, Nat.le_trans ol' (Nat.le_add_right _ _), h1, h2⟩
    · rintro σ Hi ⟨o1, o2, o3, o4, o5, xs, rs, rfl, hpi, bi, hDi, hrs, hl, hok⟩
      exact ⟨_, rfl, k D xs rs Hi hD hDi hrs (by omega) hok hpi bi⟩
end
end K23
namespace K23
open PySem PySem.Spec PyProof.Rows L2 FL
abbrev sTurn : Stmt := topS 59
section
variable {P : Program} {w : World} {K : PySem.W.Frag} {mg : Str → Option Value} {base : Heap}
theorem scTurn : FnScope ["_law_deals_here", "_law_note_here", "_law_kind", "_law_old", "_law_new"] ["_law_deals_here", "_law_note_here"] (defScope sTurn) :=
  ⟨rfl, rfl, rfl, by decide +kernel, rfl, by decide +kernel, by decide +kernel⟩
theorem ok_turn {f : Addr} {fd : FuncData} (F : Fun K "_law_turn" "_law_turn" sTurn f fd) (mN : mg "len" = none) :
    FnOk P w K mg base CX0 1 f fd ["_law_deals_here", "_law_note_here"] (spTurn K) := by
  refine F.ok scTurn (fun vs H Q E h => ?_) (fun cdv A outer s H vs Q E hr h => ?_)
  · obtain ⟨_, _, _, _, rfl, _⟩ := h
    rfl
  · obtain ⟨D, y, xs, rs, rfl, hD, hrs, ly, lr, k⟩ := h
    have nd := scTurn.nd
    refine ⟨_, pss_cons (ps_for PassesOwn.never rfl (pi_list (pv 0))
        (pg_tup rfl (pgs_cons (pg_name (i := 2) nd rfl (.inl rfl)) (pgs_cons (pg_name (i := 3) nd rfl (.inl rfl)) (pgs_cons (pg_name (i := 4) nd rfl (.inl rfl)) pgs_nil))))
        (pss_cons (ps_if (PW.pt (pw_and (pt_cmpR op_eq (pv 2) pe_str (nomark _)) (pw_and1 (pt_cmpR op_eq (pv 1) (pv 3) (nomark _)))))
          (pss_one (ps_ret (pv 4))) pss_nil)
        (pss_one (ps_if (PW.pt (pw_and (pt_cmpR op_eq (pv 2) pe_str (nomark _)) (pw_and1 (pt_cmpR op_eq
            (pe_slice sl_str (pv 1) po_none (po_some (pe_callB callLen (by rfl) mN PySem.boot_len (pa_cons (pv 3) pa_nil)))) (pv 3) (nomark _)))))
          (pss_one (ps_ret (pe_op op_add_str (pv 4) (pe_slice sl_str (pv 1) (po_some (pe_callB callLen (by rfl) mN PySem.boot_len (pa_cons (pv 3) pa_nil))) po_none)))) pss_nil))))
      (pss_one (ps_ret (pv 1))), ?_⟩
    have sz : sizeLine = 16777216 := rfl
    refine ⟨_, rfl, D, rfl, ⟨_, hD⟩, for_list (xs := xs) (fun i σ Hi => ∃ o1 o2 o3 : Option V, σ = [some (.ref D), some (.str y), o1, o2, o3] ∧ Hi = H ∧ turn (rs.drop i) y = turn rs y)
      ⟨_, _, _, rfl, rfl, rfl⟩ ?_ ?_ ?_⟩
    · rintro i σ Hi _ ⟨_, _, _, rfl, rfl, _⟩
      exact hD
    · rintro i x σ Hi hx ⟨o1, o2, o3, rfl, rfl, ht⟩
      obtain ⟨r, hr', t, rfl, hT⟩ := paired_get hrs hx
      have hm : r ∈ rs := List.mem_of_getElem? hr'
      obtain ⟨l1, l2⟩ := lr r hm
      have hlt : i < rs.length := (List.getElem?_eq_some_iff.mp hr').1
      have ed : rs.drop i = r :: rs.drop (i + 1) := by
        rw [List.drop_eq_getElem_cons hlt]
        congr 1
        exact (List.getElem?_eq_some_iff.mp hr').2
      rw [ed] at ht
      refine ⟨t, _, rfl, SqT.of hT, rfl, _, _, rfl, _, _, rfl, _, _, rfl, rfl, ?_⟩
      obtain ⟨fr, old, new⟩ := r
      cases fr with
      | true =>
        refine ⟨_, rfl, rfl, _, rfl, ?_⟩
        refine ite2 (fun h => absurd (of_decide_eq_true h) (strV_ne kd_ne)) (fun _ => ?_)
        refine iteF ?_
        refine ⟨_, rfl, rfl, _, rfl, ?_⟩
        refine ite2 (fun _ => ?_) (fun h => absurd (decide_eq_true rfl) h)
        refine ⟨_, rfl, _, rfl, _, old.length, rfl, ⟨(by rw [sz]; exact Nat.le_trans l1 (by decide)), rfl⟩, _, rfl, y, rfl, (by rw [sz]; exact Nat.le_trans ly (by decide)), _, rfl, rfl, _, rfl, ?_⟩
        by_cases hf : cutS y none (some (old.length : Int)) = old
        · rw [decide_eq_true (show V.str (cutS y none (some (old.length : Int))) = V.str old by rw [hf])]
          refine iteT ?_
          refine ⟨_, rfl, _, rfl, _, rfl, _, old.length, rfl, ⟨(by rw [sz]; exact Nat.le_trans l1 (by decide)), rfl⟩, _, rfl, y, rfl, (by rw [sz]; exact Nat.le_trans ly (by decide)), _, _, rfl, rfl, ?_, ?_⟩
          · have := cutS_length y (some (old.length : Int)) none
            have l2' : new.length ≤ 1000 := l2
            rw [sz]
            omega
          · have e1 : turn rs y = new ++ cutS y (some (old.length : Int)) none := by
              rw [← ht]
              show (if fits ⟨true, old, new⟩ y = true then _ else _) = _
              rw [if_pos (show fits ⟨true, old, new⟩ y = true from decide_eq_true hf)]
              rfl
            rw [e1] at k
            exact k
        · rw [decide_eq_false (strV_ne hf)]
          refine iteF ?_
          refine ⟨_, _, _, rfl, rfl, ?_⟩
          rw [← ht]
          show _ = (if fits ⟨true, old, new⟩ y = true then _ else _)
          rw [if_neg (by rw [show fits ⟨true, old, new⟩ y = false from decide_eq_false hf]; decide)]
      | false =>
        refine ⟨_, rfl, rfl, _, rfl, ?_⟩
        refine ite2 (fun _ => ?_) (fun h => absurd (decide_eq_true rfl) h)
        refine ⟨_, rfl, _, rfl, rfl, _, rfl, ?_⟩
        by_cases hf : y = old
        · rw [decide_eq_true (show V.str y = V.str old by rw [hf])]
          refine iteT ?_
          refine ⟨_, rfl, ?_⟩
          have e1 : turn rs y = new := by
            rw [← ht]
            show (if fits ⟨false, old, new⟩ y = true then _ else _) = _
            rw [if_pos (show fits ⟨false, old, new⟩ y = true from decide_eq_true hf)]
            rfl
          rw [e1] at k
          exact k
        · rw [decide_eq_false (strV_ne hf)]
          refine iteF ?_
          refine ⟨_, rfl, rfl, _, rfl, ?_⟩
          refine ite2 (fun h => absurd (of_decide_eq_true h) (strV_ne (Ne.symm kd_ne))) (fun _ => ?_)
          refine iteF ?_
          refine ⟨_, _, _, rfl, rfl, ?_⟩
          rw [← ht]
          show _ = (if fits ⟨false, old, new⟩ y = true then _ else _)
          rw [if_neg (by rw [show fits ⟨false, old, new⟩ y = false from decide_eq_false hf]; decide)]
    · rintro σ Hi ⟨o1, o2, o3, rfl, rfl, ht⟩
      have : turn rs y = y := by
        rw [← ht, paired_len hrs, List.drop_length]
        rfl
      refine ⟨_, rfl, ?_⟩
      rw [this] at k
      exact k
end
end K23
namespace K23
open PySem PySem.Spec PyProof.Rows L2 FL
abbrev sNotes : Stmt := topS 61
section
variable {P : Program} {w : World} {K : PySem.W.Frag} {mg : Str → Option Value} {base : Heap}
abbrev nNotes : List Str := ["_law_abc_here", "_law_most", "_law_found", "_law_last", "_law_turn_here", "_law_longer", "_law_note_here", "_law_letter"]
theorem scNotes : FnScope nNotes ["_law_abc_here", "_law_most"] (defScope sNotes) :=
  ⟨rfl, rfl, rfl, by decide +kernel, rfl, by decide +kernel, by decide +kernel⟩
theorem ok_notes {f : Addr} {fd : FuncData} (F : Fun K "_law_notes" "_law_notes" sNotes f fd) (mR : mg "range" = none) :
    FnOk P w K mg base CX0 1 f fd ["_law_abc_here", "_law_most"] spNotes := by
  refine F.ok scNotes (fun vs H Q E h => ?_) (fun cdv A outer s H vs Q E hr h => ?_)
  · obtain ⟨_, _, rfl, _⟩ := h
    rfl
  · obtain ⟨z, m, rfl, z0, z1, m0, m1, k⟩ := h
    have nd := scNotes.nd
    refine ⟨_, pss_cons (ps_par (i := 2) (j := 3) (by rfl) nd rfl rfl (by decide) rfl rfl
        (pa_cons (pe_lst (pa_cons pe_str pa_nil)) (pa_cons (pe_lst (pa_cons pe_str pa_nil)) pa_nil)) (by rfl))
      (pss_cons (ps_for PassesOwn.never rfl (pi_range1 (by rfl) mR (pa_cons (pv 1) pa_nil)) (pg_name (i := 4) nd rfl (.inl rfl))
        (pss_cons (ps_set (i := 5) nd rfl (.inl rfl) (pe_lst pa_nil))
        (pss_cons (ps_for PassesOwn.never rfl (pi_list (pv 3)) (pg_name (i := 6) nd rfl (.inr rfl))
          (pss_one (ps_expr (pe_bm PySem.F.plainAttrs_list PySem.F.slot_list_extend PySem.F.type_list_extend mtExtend (pv 5)
            (pa_cons (pe_lc (own := [("_law_letter", 7)]) (g := gName 7) (tt := tYes) rfl nd (pi_str (pv 0))
              (blkOk_by (N := nNotes) (sc := defScope sNotes) (by decide +kernel))
              (fun _ _ _ _ _ => pg_name (i := 7) nd rfl (Or.inl rfl)) (fun _ _ _ _ _ => pts_nil)
              (fun _ _ _ _ _ => pe_op op_add_str (pv 6) (pv 7))) pa_nil)))))
        (pss_one (ps_par (i := 2) (j := 3) (by rfl) nd rfl rfl (by decide) rfl rfl
          (pa_cons (pe_op op_cat (pv 2) (pv 5)) (pa_cons (pv 5) pa_nil)) (by rfl))))))
      (pss_one (ps_ret (pv 2)))), ?_⟩
    have sz : sizeLine = 16777216 := rfl
    have hn : z.cps.size = z.length := rfl
    refine ⟨by decide, fun A1 hA1 => ?_⟩
    refine ⟨by decide, fun A2 hA2 => ?_⟩
    have n12 : A1 ≠ A2 := fun e => by
      rw [e] at hA2
      rw [upd_same] at hA2
      cases hA2
    have hA20 : H A2 = none := by
      rw [upd_ne (Ne.symm n12)] at hA2
      exact hA2
    refine ⟨_, _, rfl, _, rfl, m, rfl, by omega, by omega, ?_⟩
    refine for_range (lo := 0) (n := m.toNat) (fun i σ Hi => ∃ (o4 o5 o6 : Option V) (F1 La : Addr) (fs ls : List Str),
        σ = [some (.str z), some (.int m), some (.ref F1), some (.ref La), o4, o5, o6, none] ∧ H F1 = none ∧ H La = none
      ∧ Hi F1 = some (.lst (fs.map V.str)) ∧ Hi La = some (.lst (ls.map V.str)) ∧ ls.length = z.length ^ i ∧ fs.length ≤ 256 * (i + 1)
      ∧ (∀ y ∈ ls, NoteOk z i y) ∧ (∀ y ∈ fs, NoteOk z i y) ∧ Same H Hi) ?_ ?_ ?_
    · have e0 : NoteOk z 0 (Str.ofString "") := ⟨fun c hc => (by rw [show (Str.ofString "").cps.toList = [] by decide +kernel] at hc; cases hc), by decide +kernel⟩
      refine ⟨_, _, _, A1, A2, [Str.ofString ""], [Str.ofString ""], rfl, hA1, hA20, ?_, upd_same, by simp, by simp, ?_, ?_, ((Same.refl H).upd hA1).upd hA20⟩
      · rw [upd_ne n12, upd_same]
        rfl
      · intro y hy
        rw [List.mem_singleton.mp hy]
        exact e0
      · intro y hy
        rw [List.mem_singleton.mp hy]
        exact e0
    · rintro i σ Hi hi ⟨o4, o5, o6, F1, La, fs, ls, rfl, nF, nL, hF, hL, ll, lf, okl, okf, sm⟩
      refine ⟨by decide, fun L hL0 => ?_⟩
      have nFL : F1 ≠ L := ne_of_none hF hL0
      have nLL : La ≠ L := ne_of_none hL hL0
      have h0L : H L = none := sm.none hL0
      have hi4 : i ≤ 4 := by omega
      have pb := pow_bound z1 hi4 z0
      refine ⟨_, rfl, La, rfl, ⟨_, SqL.of (by rw [upd_ne nLL]; exact hL)⟩, for_list (xs := ls.map V.str) (fun j σ Hj => ∃ (o6 : Option V) (ws : List Str),
          σ = [some (.str z), some (.int m), some (.ref F1), some (.ref La), some (.int (0 + i)), some (.ref L), o6, none]
        ∧ Hj F1 = some (.lst (fs.map V.str)) ∧ Hj La = some (.lst (ls.map V.str)) ∧ Hj L = some (.lst (ws.map V.str)) ∧ ws.length = j * z.length ∧ (∀ y ∈ ws, NoteOk z (i + 1) y) ∧ Same H Hj) ?_ ?_ ?_ ?_⟩
      · exact ⟨_, [], rfl, by rw [upd_ne nFL]; exact hF, by rw [upd_ne nLL]; exact hL, upd_same, by simp, (fun _ h => nomatch h), sm.upd h0L⟩
      · rintro j σ Hj _ ⟨_, ws, rfl, _, h2, _⟩
        exact SqL.of h2
      · rintro j x σ Hj hx ⟨o6, ws, rfl, h1, h2, h3, lw, okw, sj⟩
        rw [List.getElem?_map] at hx
        cases hy : ls[j]? with
        | none =>
          rw [hy] at hx
          cases hx
        | some y =>
          rw [hy] at hx
          obtain rfl : V.str y = x := Option.some.inj hx
          have my : y ∈ ls := List.mem_of_getElem? hy
          have jl : j < ls.length := (List.getElem?_eq_some_iff.mp hy).1
          have oky := okl y my
          refine ⟨_, rfl, .inl ⟨rfl, _, SqL.of h3⟩, _, rfl, z, rfl, fun C hC => ?_⟩
          have nCL : L ≠ C := ne_of_none h3 hC
          have h0C : H C = none := sj.none hC
          refine lc_it walk_str (fun t Ht => ∃ cs : List Str, Ht C = some (.lst (cs.map V.str)) ∧ cs.length = t ∧ (∀ y ∈ cs, NoteOk z (i + 1) y)
            ∧ Ht F1 = some (.lst (fs.map V.str)) ∧ Ht La = some (.lst (ls.map V.str)) ∧ Ht L = some (.lst (ws.map V.str)) ∧ Same H Ht) ?_ (fun _ _ _ _ => trivial) ?_ ?_
          · exact ⟨[], upd_same, rfl, (fun _ h => nomatch h), by rw [upd_ne (ne_of_none h1 hC)]; exact h1, by rw [upd_ne (ne_of_none h2 hC)]; exact h2, by rw [upd_ne nCL]; exact h3, sj.upd h0C⟩
          · rintro t x Ht _ ht ⟨cs, g0, g1, g2, g3, g4, g5, g6⟩ ⟨rfl, c, hc, rfl⟩
            have cz : c ∈ z.cps.toList := by
              have : z.cps.toList[t]? = some c := by simpa using hc
              exact List.mem_of_getElem? this
            have ly : y.length ≤ i := oky.le
            refine ⟨rfl, _, rfl, _, rfl, _, _, rfl, rfl, (by rw [len_one, sz]; omega), ?_⟩
            have nCF : F1 ≠ C := ne_of_none h1 hC
            have nCA : La ≠ C := ne_of_none h2 hC
            refine ⟨_, g0, (by rw [List.length_map, sz]; omega), cs ++ [y ++ ⟨#[c]⟩], ?_, ?_, ?_, ?_, ?_, ?_, g6.upd h0C⟩
            · rw [upd_same, List.map_append]
              rfl
            · rw [List.length_append, g1]
              rfl
            · intro q hq
              rcases List.mem_append.mp hq with h | h
              · exact g2 q h
              · rw [List.mem_singleton.mp h]
                exact ⟨over_app oky.ov (over_one cz), by rw [len_app, len_one]; omega⟩
            · rw [upd_ne nCF]
              exact g3
            · rw [upd_ne nCA]
              exact g4
            · rw [upd_ne nCL]
              exact g5
          · rintro Ht ⟨cs, g0, g1, g2, g3, g4, g5, g6⟩
            have jz : (j + 1) * z.length ≤ 256 * 4 := Nat.mul_le_mul (by omega) z1
            have jz2 : (j + 1) * z.length = j * z.length + z.length := Nat.succ_mul _ _
            refine ⟨L, C, _, _, rfl, rfl, g5, g0, (by rw [List.length_map, List.length_map, sz]; omega), ?_⟩
            have nFL2 : F1 ≠ L := nFL
            refine ⟨_, ws ++ cs, rfl, by rw [upd_ne nFL]; exact g3, by rw [upd_ne nLL]; exact g4, by rw [upd_same, List.map_append], ?_, ?_, g6.upd h0L⟩
            · rw [List.length_append, lw, g1]
              omega
            · intro q hq
              exact (List.mem_append.mp hq).elim (okw q) (g2 q)
      · rintro σ Hj ⟨o6, ws, rfl, h1, h2, h3, lw, okw, sj⟩
        rw [List.length_map] at lw
        have pw : ws.length = z.length ^ (i + 1) := by
          rw [lw, ll, Nat.pow_succ]
        have pb2 := pow_bound z1 (show i + 1 ≤ 4 by omega) z0
        refine ⟨_, rfl, _, rfl, F1, L, _, _, rfl, rfl, h1, h3, (by rw [List.length_map, List.length_map, sz]; omega), fun Pp hP => ?_⟩
        refine ⟨_, rfl, _, _, rfl, ?_⟩
        refine ⟨_, _, _, Pp, L, fs ++ ws, ws, rfl, sj.none hP, h0L, by rw [upd_same, List.map_append], by rw [upd_ne (ne_of_none h3 hP)]; exact h3, pw, ?_, okw, ?_, sj.upd (sj.none hP)⟩
        · rw [List.length_append]
          omega
        · intro q hq
          rcases List.mem_append.mp hq with h | h
          · exact ⟨(okf q h).ov, Nat.le_trans (okf q h).le (Nat.le_succ _)⟩
          · exact okw q h
    · rintro σ Hi ⟨o4, o5, o6, F1, La, fs, ls, rfl, nF, nL, hF, hL, ll, lf, okl, okf, sm⟩
      exact ⟨_, rfl, k F1 fs Hi nF hF okf (by omega) sm⟩
end
end K23
namespace K23
open PySem PySem.Spec PyProof.Rows L2 FL
abbrev sIsSigns : Stmt := topS 16
abbrev sIsLine : Stmt := topS 17
section
variable {P : Program} {w : World} {K : PySem.W.Frag} {mg : Str → Option Value} {base : Heap}
theorem scIsLine : FnScope ["signs", "value"] ["signs", "value"] (defScope sIsLine) :=
  ⟨rfl, rfl, rfl, by decide +kernel, rfl, by decide +kernel, by decide +kernel⟩
theorem ok_isline {f : Addr} {fd : FuncData} (F : Fun K "is_line" "is_line" sIsLine f fd)
    (mI : mg "isinstance" = none) (mS : mg "str" = none) :
    FnOk P w K mg base CX0 1 f fd ["signs", "value"] spLine := by
  refine F.ok scIsLine (fun vs H Q E h => ?_) (fun cdv A outer s H vs Q E hr h => ?_)
  · obtain ⟨_, _, _, rfl, _⟩ := h
    rfl
  · obtain ⟨sg, v, n, rfl, an, sh, k⟩ := h
    refine ⟨_, pss_one (ps_ret (pe_and (pe_callB call_isA (by rfl) mI (by decide +kernel)
        (pa_cons (pv 1) (pa_cons (pe_bltn (v := .ty "str") (by rfl) mS (by decide +kernel) rfl) pa_nil)))
      (pe_one (pe_cmpR op_eq (pe_bm PySem.F.plainAttrs_str PySem.F.slot_str_strip PySem.F.type_str_strip mt_stripChars (pv 1) (pa_cons (pv 0) pa_nil)) pe_str (nomark _))))), ?_⟩
    refine ⟨v, rfl, v, n, "str", rfl, an, by decide, _, rfl, ?_⟩
    cases an with
    | str z =>
      refine ⟨.str z, rfl, rfl, .str sg, rfl, z, sg, rfl, rfl, sh z rfl, rfl, ?_⟩
      have e : decide (V.str (Txt.stripChars z sg) = V.str (Str.ofString "")) = lineB sg (.str z) := by
        show _ = decide (Txt.stripChars z sg = (Str.ofString ""))
        by_cases h : Txt.stripChars z sg = Str.ofString ""
        · rw [h]
          simp
        · rw [decide_eq_false h, decide_eq_false]
          intro q
          exact h (V.str.inj q)
      rw [e]
      exact k
    | _ => exact k
abbrev nIsSigns : List Str := ["value", "rising", "first", "second"]
theorem scIsSigns : FnScope nIsSigns ["value"] (defScope sIsSigns) :=
  ⟨rfl, rfl, rfl, by decide +kernel, rfl, by decide +kernel, by decide +kernel⟩
theorem ok_issigns {f g : Addr} {fd gd : FuncData} (F : Fun K "is_signs" "is_signs" sIsSigns f fd)
    (G : FnOk P w K mg base CX0 1 g gd ["signs", "value"] spLine) (bG : Binds K gd ["signs", "value"] [])
    (kG : PySem.W.keepIn K (.ref g) = true) (mG : mg "is_line" = some (.ref g)) {tk : Tok}
    (mC : mg "SIGN_CHARACTERS" = some (.str signChars tk))
    (mI : mg "isinstance" = none) (mS : mg "str" = none) (mN : mg "len" = none) (mA : mg "all" = none) (mZ : mg "zip" = none) :
    FnOk P w K mg base CX0 2 f fd ["value"] spSigns := by
  refine F.ok scIsSigns (fun vs H Q E h => ?_) (fun cdv A outer s H vs Q E hr h => ?_)
  · obtain ⟨_, _, rfl, _⟩ := h
    rfl
  · obtain ⟨v, n, rfl, an, sh, k⟩ := h
    have nd := scIsSigns.nd
    refine ⟨_, pss_cons (ps_if (PW.pt (pw_or (pt_not (pt_val (pe_callB call_isA (by rfl) mI (by decide +kernel)
          (pa_cons (pv 0) (pa_cons (pe_bltn (v := .ty "str") (by rfl) mS (by decide +kernel) rfl) pa_nil)))))
        (pw_or (pt_cmpR op_lt (pe_callB callLen (by rfl) mN PySem.boot_len (pa_cons (pv 0) pa_nil)) pe_int (nomark _))
        (pw_or1 (pt_cmpR op_gt (pe_callB callLen (by rfl) mN PySem.boot_len (pa_cons (pv 0) pa_nil)) pe_int (nomark _))))))
        (pss_one (ps_ret pe_bl)) pss_nil)
      (pss_cons (ps_set (i := 1) nd rfl (.inl rfl) (pe_callB (cr_all rfl) (by rfl) mA (by decide +kernel)
        (pa_cons (pe_lc (own := [("first", 2), ("second", 3)]) (g := gTup K 2 (gCons (gName 2) (gCons (gName 3) gNil))) (tt := tYes) rfl nd
          (pi_zipS (by rfl) mZ (pa_cons (pv 0) (pa_cons (pe_slice sl_str (pv 0) (po_some pe_int) po_none) pa_nil)))
          (blkOk_by (N := nIsSigns) (sc := defScope sIsSigns) (by decide +kernel))
          (fun _ _ _ _ _ => pg_tup rfl (pgs_cons (pg_name (i := 2) nd rfl (Or.inl rfl)) (pgs_cons (pg_name (i := 3) nd rfl (Or.inl rfl)) pgs_nil)))
          (fun _ _ _ _ _ => pts_nil)
          (fun _ _ _ _ _ => pe_cmpR op_lt_str (pv 2) (pv 3) (nomark _))) pa_nil)))
      (pss_one (ps_ret (pe_and (pv 1) (pe_one (pe_call G hr (by rfl) mG kG bG .nil pass0 (pa_cons (pe_glob (v := .str signChars) rfl mC ⟨_, rfl⟩) (pa_cons (pv 0) pa_nil)))))))), ?_⟩
    refine ⟨v, rfl, v, n, "str", rfl, an, by decide, _, rfl, ?_⟩
    cases an with
    | str z =>
      have lz : z.length ≤ sizeLine := sh z rfl
      have hl := str_len z
      refine iteF ?_
      refine ⟨_, rfl, _, z.length, rfl, ⟨lz, rfl⟩, _, _, rfl, rfl, _, rfl, ?_⟩
      by_cases h2 : (z.length : Int) < 2
      · rw [decide_eq_true h2]
        refine iteT ?_
        refine iteT ?_
        have e : signsB (.str z) = false := by
          show (decide (2 ≤ z.length) && _) = false
          rw [decide_eq_false (by omega)]
          rfl
        have := k H (Same.refl H)
        rw [e] at this
        exact this
      rw [decide_eq_false h2]
      refine iteF ?_
      refine ⟨_, rfl, _, z.length, rfl, ⟨lz, rfl⟩, _, _, rfl, rfl, _, rfl, ?_⟩
      by_cases h4 : (z.length : Int) > 4
      · rw [decide_eq_true h4]
        refine iteT ?_
        have e : signsB (.str z) = false := by
          show (decide (2 ≤ z.length) && (decide (z.length ≤ 4) && _)) = false
          rw [decide_eq_false (show ¬ z.length ≤ 4 by omega)]
          simp
        have := k H (Same.refl H)
        rw [e] at this
        exact this
      rw [decide_eq_false h4]
      refine iteF ?_
      refine ⟨_, rfl, _, rfl, 1, rfl, z, rfl, lz, z, cutS z (some 1) none, rfl, fun D hD => ?_⟩
      have sz : sizeLine = 16777216 := rfl
      have ltail : (cutS z (some 1) none).cps.size = z.cps.toList.tail.length := by rw [← cut_tail, Array.length_toList]
      refine lc_it walk_zipS (fun t Ht => Same H Ht ∧ Ht D = some (.lst (((rise z.cps.toList).take t).map V.bl))) ?_ (fun _ _ _ _ => trivial) ?_ ?_
      · exact ⟨(Same.refl H).upd hD, upd_same⟩
      · rintro t x Ht _ ht ⟨g1, g2⟩ ⟨T, a, b, rfl, hT, rfl, ha, hb⟩
        refine ⟨T, _, rfl, SqT.of upd_same, rfl, _, _, rfl, _, _, rfl, rfl, rfl, ?_⟩
        refine ⟨_, rfl, _, rfl, _, _, rfl, rfl, ?_⟩
        have nDT : D ≠ T := ne_of_none g2 hT
        have ra : z.cps.toList[t]? = some a := by simpa using ha
        have rb : z.cps.toList.tail[t]? = some b := by
          rw [← cut_tail]
          simpa using hb
        refine ⟨_, by rw [upd_ne nDT]; exact g2, ?_, (g1.upd (g1.none hT)).upd hD, ?_⟩
        · rw [List.length_map, List.length_take, sz]
          have : t < z.cps.size := by omega
          have : z.cps.size = z.length := rfl
          omega
        · rw [upd_same, take_snoc (rise_get ra rb), List.map_append]
          rfl
      · rintro Ht ⟨g1, g2⟩
        refine ⟨D, (rise z.cps.toList).take _, rfl, SqL.of g2, ?_⟩
        have eall : (rise z.cps.toList).take (min z.cps.size (cutS z (some 1) none).cps.size) = rise z.cps.toList := by
          apply List.take_of_length_le
          unfold rise
          rw [List.length_zipWith, ltail, Array.length_toList]
          exact Nat.le_refl _
        rw [eall]
        refine ⟨_, rfl, _, rfl, ?_⟩
        have es : signsB (.str z) = ((rise z.cps.toList).all id && lineB signChars (.str z)) := by
          show (decide (2 ≤ z.length) && (decide (z.length ≤ 4) && _)) = _
          rw [decide_eq_true (show 2 ≤ z.length by omega), decide_eq_true (show z.length ≤ 4 by omega)]
          rfl
        have kk := k Ht g1
        rw [es] at kk
        cases hq : (rise z.cps.toList).all id with
        | true =>
          rw [hq] at kk
          exact ⟨_, rfl, signChars, .str z, "str", rfl, .str z, sh, kk⟩
        | false =>
          rw [hq] at kk
          exact kk
    | _ => exact k H (Same.refl H)
end
end K23
namespace K23
open PySem PySem.Spec PyProof.Rows L2 FL
abbrev sIsList : Stmt := topS 15
abbrev sCheckSigns : Stmt := topS 23
abbrev sCheckLine : Stmt := topS 25
abbrev sRuleLine : Stmt := topS 28
abbrev sIsWord : Stmt := topS 27
abbrev sIsRule : Stmt := topS 29
section
variable {P : Program} {w : World} {K : PySem.W.Frag} {mg : Str → Option Value} {base : Heap}
theorem scCheckSigns : FnScope ["signs"] ["signs"] (defScope sCheckSigns) := ⟨rfl, rfl, rfl, by decide +kernel, rfl, by decide +kernel, by decide +kernel⟩
theorem ok_checksigns {f g : Addr} {fd gd : FuncData} (F : Fun K "check_signs" "check_signs" sCheckSigns f fd)
    (G : FnOk P w K mg base CX0 2 g gd ["value"] spSigns) (bG : Binds K gd ["value"] [])
    (kG : PySem.W.keepIn K (.ref g) = true) (mG : mg "is_signs" = some (.ref g)) : FnOk P w K mg base CX0 3 f fd ["signs"] spCheckSigns := by
  refine F.ok scCheckSigns (fun vs H Q E h => ?_) (fun cdv A outer s H vs Q E hr h => ?_)
  · obtain ⟨_, rfl, _⟩ := h
    rfl
  · obtain ⟨z, rfl, hz, k⟩ := h
    refine ⟨_, pss_one (ps_if (pt_not (pt_val (pe_call G hr (by rfl) mG kG bG .nil pass0 (pa_cons (pv 0) pa_nil)))) (pss_one ps_never) pss_nil), ?_⟩
    refine ⟨_, rfl, .str z, "str", rfl, .str z, ?_, fun H' sm => ?_⟩
    · intro y e
      cases e
      have := hz.hi
      exact Nat.le_trans this (by decide)
    · rw [abc_signs hz]
      exact ⟨_, rfl, k H' sm⟩
theorem scCheckLine : FnScope ["signs", "line"] ["signs", "line"] (defScope sCheckLine) := ⟨rfl, rfl, rfl, by decide +kernel, rfl, by decide +kernel, by decide +kernel⟩
theorem ok_checkline {f g : Addr} {fd gd : FuncData} (F : Fun K "check_line" "check_line" sCheckLine f fd)
    (G : FnOk P w K mg base CX0 1 g gd ["signs", "value"] spLine) (bG : Binds K gd ["signs", "value"] [])
    (kG : PySem.W.keepIn K (.ref g) = true) (mG : mg "is_line" = some (.ref g)) : FnOk P w K mg base CX0 2 f fd ["signs", "line"] spCheckLine := by
  refine F.ok scCheckLine (fun vs H Q E h => ?_) (fun cdv A outer s H vs Q E hr h => ?_)
  · obtain ⟨_, _, rfl, _⟩ := h
    rfl
  · obtain ⟨z, y, rfl, oy, ly, k⟩ := h
    refine ⟨_, pss_one (ps_if (pt_not (pt_val (pe_call G hr (by rfl) mG kG bG .nil pass0 (pa_cons (pv 0) (pa_cons (pv 1) pa_nil))))) (pss_one ps_never) pss_nil), ?_⟩
    refine ⟨_, rfl, _, rfl, z, .str y, "str", rfl, .str y, (fun q e => by cases e; exact ly), ?_⟩
    rw [over_line oy]
    exact ⟨_, rfl, k⟩
theorem scIsList : FnScope ["value"] ["value"] (defScope sIsList) := ⟨rfl, rfl, rfl, by decide +kernel, rfl, by decide +kernel, by decide +kernel⟩
theorem ok_islist {f : Addr} {fd : FuncData} (F : Fun K "is_list" "is_list" sIsList f fd)
    (mI : mg "isinstance" = none) (mL : mg "list" = none) (mT : mg "tuple" = none) : FnOk P w K mg base CX0 1 f fd ["value"] spIsList := by
  refine F.ok scIsList (fun vs H Q E h => ?_) (fun cdv A outer s H vs Q E hr h => ?_)
  · obtain ⟨_, _, rfl, _⟩ := h
    rfl
  · obtain ⟨v, n, rfl, an, k⟩ := h
    refine ⟨_, pss_one (ps_ret (pe_callB call_isiT (by rfl) mI (by decide +kernel) (pa_cons (pv 0) (pa_cons
      (pe_tup (pa_cons (pe_bltn (v := .ty "list") (by rfl) mL (by decide +kernel) rfl) (pa_cons (pe_bltn (v := .ty "tuple") (by rfl) mT (by decide +kernel) rfl) pa_nil))) pa_nil)))), ?_⟩
    refine ⟨_, rfl, by decide, fun p hp => ?_⟩
    have an2 : Any (upd H p (.tup [.ty "list", .ty "tuple"])) v n := an.same fun a o _ e => by rw [upd_ne (ne_of_none e hp)]; exact e
    exact ⟨v, p, _, _, _, _, rfl, upd_same, .cons (.ty "list") (.cons (.ty "tuple") .nil), an2.tyx, kit_lt an.kind, k _ ((Same.refl H).upd hp)⟩
theorem scRuleLine : FnScope ["signs", "value"] ["signs", "value"] (defScope sRuleLine) := ⟨rfl, rfl, rfl, by decide +kernel, rfl, by decide +kernel, by decide +kernel⟩
theorem ok_ruleline {f g : Addr} {fd gd : FuncData} (F : Fun K "is_rule_line" "is_rule_line" sRuleLine f fd)
    (G : FnOk P w K mg base CX0 1 g gd ["signs", "value"] spLine) (bG : Binds K gd ["signs", "value"] [])
    (kG : PySem.W.keepIn K (.ref g) = true) (mG : mg "is_line" = some (.ref g)) {tk : Tok} (mM : mg "MOST_RULE_SIGNS" = some (.int 40 tk)) (mN : mg "len" = none) :
    FnOk P w K mg base CX0 2 f fd ["signs", "value"] spRuleLine := by
  refine F.ok scRuleLine (fun vs H Q E h => ?_) (fun cdv A outer s H vs Q E hr h => ?_)
  · obtain ⟨_, _, rfl, _⟩ := h
    rfl
  · obtain ⟨z, y, rfl, oy, ly, k⟩ := h
    refine ⟨_, pss_one (ps_ret (pe_and (pe_call G hr (by rfl) mG kG bG .nil pass0 (pa_cons (pv 0) (pa_cons (pv 1) pa_nil)))
      (pe_one (pe_cmpR op_le (pe_callB callLen (by rfl) mN PySem.boot_len (pa_cons (pv 1) pa_nil)) (pe_glob (v := .int 40) rfl mM ⟨_, rfl⟩) (nomark _))))), ?_⟩
    have l2 : y.length ≤ sizeLine := Nat.le_trans ly (by decide)
    refine ⟨_, rfl, _, rfl, z, .str y, "str", rfl, .str y, (fun q e => by cases e; exact l2), ?_⟩
    rw [over_line oy]
    refine ⟨_, rfl, _, rfl, _, y.length, rfl, ⟨l2, rfl⟩, _, _, rfl, rfl, ?_⟩
    show Q (.bl (decide ((y.length : Int) ≤ 40))) H
    rw [decide_eq_true (show (y.length : Int) ≤ 40 by omega)]
    exact k
theorem scIsWord : FnScope ["value", "words"] ["value", "words"] (defScope sIsWord) := ⟨rfl, rfl, rfl, by decide +kernel, rfl, by decide +kernel, by decide +kernel⟩
def relsB : List V → List Value → Bool
  | [], [] => true
  | x :: xs, u :: us => He.relB x u && relsB xs us
  | _, _ => false
theorem relsB_ok : ∀ {xs : List V} {us : List Value}, relsB xs us = true → Vals xs us
  | [], [], _ => .nil
  | [], _ :: _, h => nomatch h
  | _ :: _, [], h => nomatch h
  | x :: xs, u :: us, h => by
    obtain ⟨h1, h2⟩ := Bool.and_eq_true_iff.mp (show (He.relB x u && relsB xs us) = true from h)
    exact .cons (He.relB_ok h1) (relsB_ok h2)
def tupB (K : PySem.W.Frag) (a : Addr) (xs : List V) : Bool := match K.lookup a with
  | some o => (match o.cls, o.data with
    | .type c, .seq its _ => decide (c = "tuple") && (decide (its.size ≤ 1000) && relsB xs its.toList)
    | _, _ => false)
  | none => false
theorem tupB_ok {K : PySem.W.Frag} {H : Hp} {a : Addr} {xs : List V} (h : tupB K a xs = true) : SqT K H a xs := by
  unfold tupB at h
  cases q : K.lookup a with
  | none =>
    rw [q] at h
    cases h
  | some o =>
    rw [q] at h
    obtain ⟨oc, od, dt, sl⟩ := o
    cases oc with
    | type c =>
      cases dt with
      | seq its n =>
        obtain ⟨h1, h2⟩ := Bool.and_eq_true_iff.mp (show (decide (c = "tuple") && (decide (its.size ≤ 1000) && relsB xs its.toList)) = true from h)
        obtain ⟨h2, h3⟩ := Bool.and_eq_true_iff.mp h2
        have e := of_decide_eq_true h1
        subst e
        exact .inr ⟨_, its, n, q, rfl, rfl, Nat.le_trans (of_decide_eq_true h2) (by decide), relsB_ok h3⟩
      | _ => cases h
    | _ => cases dt <;> cases h
def spWord (K : PySem.W.Frag) : Sp := fun vs H Q _ => ∃ (fr : Bool) (t : Addr), vs = [.str (kd fr), .ref t] ∧ SqT K H t [.str (Str.ofString "front"), .str (Str.ofString "whole")] ∧ Q (.bl true) H
theorem ok_isword {f : Addr} {fd : FuncData} (F : Fun K "is_word" "is_word" sIsWord f fd) (mI : mg "isinstance" = none) (mS : mg "str" = none) :
    FnOk P w K mg base CX0 1 f fd ["value", "words"] (spWord K) := by
  refine F.ok scIsWord (fun vs H Q E h => ?_) (fun cdv A outer s H vs Q E hr h => ?_)
  · obtain ⟨_, _, rfl, _⟩ := h
    rfl
  · obtain ⟨fr, t, rfl, ht, k⟩ := h
    refine ⟨_, pss_one (ps_ret (pe_and (pe_callB call_isA (by rfl) mI (by decide +kernel)
          (pa_cons (pv 0) (pa_cons (pe_bltn (v := .ty "str") (by rfl) mS (by decide +kernel) rfl) pa_nil)))
          (pe_one (pe_cmpR op_in_seq (pv 0) (pv 1) (by rfl))))), ?_⟩
    refine ⟨_, rfl, _, "str", "str", rfl, .str _, by decide, _, rfl, ?_⟩
    refine ⟨_, rfl, _, rfl, t, _, rfl, .inr ht, rfl, by decide, ?_⟩
    have e : inV (.str (kd fr)) [.str (Str.ofString "front"), .str (Str.ofString "whole")] = true := by cases fr <;> decide +kernel
    rw [e]
    exact k
theorem scIsRule : FnScope ["signs", "value", "kind", "old", "new"] ["signs", "value"] (defScope sIsRule) := ⟨rfl, rfl, rfl, by decide +kernel, rfl, by decide +kernel, by decide +kernel⟩
theorem ok_isrule {f g : Addr} {fd gd : FuncData} (F : Fun K "is_rule" "is_rule" sIsRule f fd)
    (G : FnOk P w K mg base CX0 2 g gd ["signs", "value"] spRuleLine) (bG : Binds K gd ["signs", "value"] [])
    (kG : PySem.W.keepIn K (.ref g) = true) (mG : mg "is_rule_line" = some (.ref g)) {e : Addr} {ed : FuncData} (Ek : FnOk P w K mg base CX0 1 e ed ["value", "words"] (spWord K)) (bE : Binds K ed ["value", "words"] [])
    (kE : PySem.W.keepIn K (.ref e) = true) (mE : mg "is_word" = some (.ref e)) {aR : Addr} (mR : mg "RULE_WORDS" = some (.ref aR)) (hR : ∀ H : Hp, SqT K H aR [.str (Str.ofString "front"), .str (Str.ofString "whole")]) (mI : mg "isinstance" = none) (mT : mg "tuple" = none) (mN : mg "len" = none) :
    FnOk P w K mg base CX0 3 f fd ["signs", "value"] spIsRule := by
  refine F.ok scIsRule (fun vs H Q E h => ?_) (fun cdv A outer s H vs Q E hr h => ?_)
  · obtain ⟨_, _, _, rfl, _⟩ := h
    rfl
  · obtain ⟨z, v, r, rfl, ⟨t, rfl, ht⟩, ok, k⟩ := h
    have nd := scIsRule.nd
    refine ⟨_, pss_cons (ps_if (PW.pt (pw_or (pt_not (pt_val (pe_callB call_isA (by rfl) mI (by decide +kernel)
          (pa_cons (pv 1) (pa_cons (pe_bltn (v := .ty "tuple") (by rfl) mT (by decide +kernel) rfl) pa_nil)))))
        (pw_or1 (pt_cmpR op_ne (pe_callB callLen (by rfl) mN PySem.boot_len (pa_cons (pv 1) pa_nil)) pe_int (nomark _)))))
        (pss_one (ps_ret pe_bl)) pss_nil)
      (pss_cons (ps_asg (pv 1) (pg_tup rfl (pgs_cons (pg_name (i := 2) nd rfl (.inl rfl)) (pgs_cons (pg_name (i := 3) nd rfl (.inl rfl)) (pgs_cons (pg_name (i := 4) nd rfl (.inl rfl)) pgs_nil)))))
      (pss_one (ps_ret (pe_and (pe_call Ek (hr.mono (by decide)) (by rfl) mE kE bE .nil pass0 (pa_cons (pv 2) (pa_cons (pe_glob (v := .ref aR) rfl mR rfl) pa_nil)))
        (pe_and (pe_call G hr (by rfl) mG kG bG .nil pass0 (pa_cons (pv 0) (pa_cons (pv 3) pa_nil)))
        (pe_one (pe_call G hr (by rfl) mG kG bG .nil pass0 (pa_cons (pv 0) (pa_cons (pv 4) pa_nil))))))))), ?_⟩
    refine ⟨_, rfl, _, "tuple", "tuple", rfl, .tup ht, by decide, _, rfl, ?_⟩
    refine iteF ?_
    refine ⟨_, rfl, _, 3, rfl, .inr ⟨_, SqT.of ht, rfl⟩, rfl, _, rfl, ?_⟩
    refine iteF ?_
    refine ⟨_, rfl, t, _, rfl, SqT.of ht, rfl, _, _, rfl, _, _, rfl, _, _, rfl, rfl, ?_⟩
    obtain ⟨fr, old, new⟩ := r
    refine ⟨_, rfl, fr, aR, rfl, hR _, _, rfl, ?_⟩
    refine ⟨_, rfl, _, rfl, z, old, rfl, ok.o1, ok.o2, _, rfl, ?_⟩
    refine ⟨_, rfl, _, rfl, z, new, rfl, ok.n1, ok.n2, ?_⟩
    exact k _ (Same.refl H)
end
end K23
namespace K23
open PySem PySem.Spec PyProof.Rows L2 FL
abbrev sCheckRules : Stmt := topS 30
section
variable {P : Program} {w : World} {K : PySem.W.Frag} {mg : Str → Option Value} {base : Heap}
theorem scCheckRules : FnScope ["signs", "rules", "position", "rule"] ["signs", "rules"] (defScope sCheckRules) := ⟨rfl, rfl, rfl, by decide +kernel, rfl, by decide +kernel, by decide +kernel⟩
theorem ok_checkrules {f g h : Addr} {fd gd hd : FuncData} (F : Fun K "check_rules" "check_rules" sCheckRules f fd)
    (G : FnOk P w K mg base CX0 1 g gd ["value"] spIsList) (bG : Binds K gd ["value"] [])
    (kG : PySem.W.keepIn K (.ref g) = true) (mG : mg "is_list" = some (.ref g))
    (Hk : FnOk P w K mg base CX0 3 h hd ["signs", "value"] spIsRule) (bH : Binds K hd ["signs", "value"] [])
    (kH : PySem.W.keepIn K (.ref h) = true) (mH : mg "is_rule" = some (.ref h)) (mE : mg "enumerate" = none) :
    FnOk P w K mg base CX0 4 f fd ["signs", "rules"] spCheckRules := by
  refine F.ok scCheckRules (fun vs H Q E h => ?_) (fun cdv A outer s H vs Q E hr h => ?_)
  · obtain ⟨_, _, _, rfl, _⟩ := h
    rfl
  · obtain ⟨z, v, rs, rfl, ha, ok, k⟩ := h
    obtain ⟨n, an, en⟩ := ha.any
    obtain ⟨a, xs, t, rfl, ea, hrs⟩ := ha
    have nd := scCheckRules.nd
    refine ⟨_, pss_cons (ps_if (pt_not (pt_val (pe_call G (hr.mono (by decide)) (by rfl) mG kG bG .nil pass0 (pa_cons (pv 1) pa_nil)))) (pss_one ps_never) pss_nil)
      (pss_one (ps_for PassesOwn.never rfl (pi_enumX t (by rfl) mE (pa_cons (pv 1) pa_nil))
        (pg_tup rfl (pgs_cons (pg_name (i := 2) nd rfl (.inl rfl)) (pgs_cons (pg_name (i := 3) nd rfl (.inl rfl)) pgs_nil)))
        (pss_one (ps_if (pt_not (pt_val (pe_call Hk hr (by rfl) mH kH bH .nil pass0 (pa_cons (pv 0) (pa_cons (pv 3) pa_nil))))) (pss_one ps_never) pss_nil)))), ?_⟩
    refine ⟨_, rfl, _, n, rfl, an, fun H1 s1 => ?_⟩
    rw [en]
    refine ⟨_, rfl, ?_⟩
    refine iteF ?_
    refine ⟨_, rfl, a, xs, rfl, sqX_of (s1 _ _ ea), for_it walk_enumX (fun i σ Hi => ∃ o1 o2 : Option V, σ = [some (.str z), some (.ref a), o1, o2] ∧ Same H Hi) ?_ ?_ ?_ ?_⟩
    · exact ⟨_, _, rfl, s1⟩
    · rintro i σ Hi _ ⟨_, _, _, sm⟩
      exact sqX_of (sm _ _ ea)
    · rintro i x σ Hi _ hi ⟨o1, o2, rfl, sm⟩ ⟨T, p, q, rfl, hT, rfl, e1, e2⟩
      obtain ⟨r, hr', t', e3, hT'⟩ := L2.paired_get hrs e2
      subst e3
      have hm : r ∈ rs := List.mem_of_getElem? hr'
      have s2 : Same H (upd Hi T (.tup [p, .ref t'])) := sm.upd (sm.none hT)
      refine ⟨T, _, rfl, SqT.of upd_same, rfl, _, _, rfl, _, _, rfl, rfl, ?_⟩
      refine ⟨_, rfl, _, rfl, z, _, r, rfl, ⟨t', rfl, s2 _ _ hT'⟩, ok r hm, fun H3 s3 => ?_⟩
      refine ⟨_, rfl, ?_⟩
      refine iteF ?_
      exact ⟨_, _, rfl, s2.trans s3⟩
    · rintro σ Hi ⟨_, _, _, sm⟩
      exact k Hi sm
end
end K23
namespace K23
open PySem PySem.Spec PyProof.Rows L2 FL
abbrev sIndex : Stmt := topS 33
section
variable {P : Program} {w : World} {K : PySem.W.Frag} {mg : Str → Option Value} {base : Heap}
theorem scIndex : FnScope ["rules", "index", "place", "kind", "old", "new"] ["rules"] (defScope sIndex) := ⟨rfl, rfl, rfl, by decide +kernel, rfl, by decide +kernel, by decide +kernel⟩
theorem ok_index {f : Addr} {fd : FuncData} (F : Fun K "rule_index" "rule_index" sIndex f fd) (mE : mg "enumerate" = none) :
    FnOk P w K mg base CX0 1 f fd ["rules"] spIndex := by
  refine F.ok scIndex (fun vs H Q E h => ?_) (fun cdv A outer s H vs Q E hr h => ?_)
  · obtain ⟨_, _, rfl, _⟩ := h
    rfl
  · obtain ⟨v, rs, rfl, ⟨a, xs, t, rfl, ea, hrs⟩, lrs, k⟩ := h
    have nd := scIndex.nd
    have hu := hu_of hr
    refine ⟨_, pss_cons (ps_set (i := 1) nd rfl (.inl rfl) pe_dnewT)
      (pss_cons (ps_for PassesOwn.never rfl (pi_enumX t (by rfl) mE (pa_cons (pv 0) pa_nil))
        (pg_tup rfl (pgs_cons (pg_name (i := 2) nd rfl (.inl rfl)) (pgs_cons
          (pg_tup rfl (pgs_cons (pg_name (i := 3) nd rfl (.inl rfl)) (pgs_cons (pg_name (i := 4) nd rfl (.inl rfl)) (pgs_cons (pg_name (i := 5) nd rfl (.inl rfl)) pgs_nil)))) pgs_nil)))
        (pss_one (ps_if (pt_cmp (pc_dnotin hu (pe_tup (pa_cons (pv 3) (pa_cons (pv 4) pa_nil))) (pv 1)))
          (pss_one (ps_dput hu (pv 1) (pe_tup (pa_cons (pv 3) (pa_cons (pv 4) pa_nil))) (pe_tup (pa_cons (pv 2) (pa_cons (pv 5) pa_nil))) rfl)) pss_nil)))
      (pss_one (ps_ret (pv 1)))), ?_⟩
    intro d hd
    have nad : a ≠ d := ne_of_none ea hd
    have sz : sizeLine = 16777216 := rfl
    have e0 : upd H d (.dT []) a = some (if t then .tup xs else .lst xs) := by rw [upd_ne nad]; exact ea
    refine ⟨_, rfl, a, xs, rfl, sqX_of e0, for_it walk_enumX (fun i σ Hi => ∃ (o1 o2 o3 o4 : Option V) (kvs : List (List Key × V)), σ = [some (.ref a), some (.ref d), o1, o2, o3, o4]
      ∧ Same H Hi ∧ Hi d = some (.dT kvs) ∧ kvs.length ≤ i ∧ IdxOk Hi kvs (rs.take i)) ?_ ?_ ?_ ?_⟩
    · exact ⟨_, _, _, _, [], rfl, (Same.refl H).upd hd, upd_same, Nat.le_refl _, by rw [List.take_zero]; exact IdxOk.nil⟩
    · rintro i σ Hi _ ⟨_, _, _, _, _, _, sm, _⟩
      exact sqX_of (sm _ _ ea)
    · rintro i x σ Hi _ hi ⟨o1, o2, o3, o4, kvs, rfl, sm, hdi, lk, ix⟩ ⟨T, p, q, rfl, hT, rfl, e1, e2⟩
      obtain rfl : V.int (i : Nat) = p := Option.some.inj e1
      obtain ⟨r, hr', t', e3, hT'⟩ := L2.paired_get hrs e2
      subst e3
      have hlt : i < rs.length := (List.getElem?_eq_some_iff.mp hr').1
      have nT : H T = none := sm.none hT
      have s2 : Same H (upd Hi T (.tup [.int (i : Nat), .ref t'])) := sm.upd nT
      have ndT : d ≠ T := ne_of_none hdi hT
      have hd2 : upd Hi T (.tup [.int (i : Nat), .ref t']) d = some (.dT kvs) := by rw [upd_ne ndT]; exact hdi
      have ts : ∀ c b, Hi c = some (.tup b) → upd Hi T (.tup [.int (i : Nat), .ref t']) c = some (.tup b) := fun c b ec => by rw [upd_ne (ne_of_none ec hT)]; exact ec
      have hTT : upd Hi T (.tup [.int (i : Nat), .ref t']) T = some (.tup [.int (i : Nat), .ref t']) := upd_same
      generalize upd Hi T (.tup [.int (i : Nat), .ref t']) = H2 at s2 hd2 ts hTT ⊢
      refine ⟨T, _, rfl, SqT.of hTT, rfl, _, _, rfl, _, _, rfl, t', _, rfl, SqT.of (s2 _ _ hT'), rfl, _, _, rfl, _, _, rfl, _, _, rfl, rfl, rfl, ?_⟩
      refine ⟨_, rfl, _, rfl, (by show 2 ≤ sizeLine; decide), fun B hB => ?_⟩
      have ndB : d ≠ B := ne_of_none hd2 hB
      have hd3 : upd H2 B (.tup [.str (kd r.fr), .str r.old]) d = some (.dT kvs) := by rw [upd_ne ndB]; exact hd2
      have s3 : Same H (upd H2 B (.tup [.str (kd r.fr), .str r.old])) := s2.upd (s2.none hB)
      have ts3 : ∀ c b, Hi c = some (.tup b) → upd H2 B (.tup [.str (kd r.fr), .str r.old]) c = some (.tup b) := fun c b ec => by rw [upd_ne (ne_of_none (ts c b ec) hB)]; exact ts c b ec
      have hBB : upd H2 B (.tup [.str (kd r.fr), .str r.old]) B = some (.tup ((ky r.fr r.old).map kV)) := upd_same
      generalize upd H2 B (.tup [.str (kd r.fr), .str r.old]) = H3 at hd3 s3 ts3 hBB ⊢
      have etake : rs.take (i + 1) = rs.take i ++ [r] := take_snoc hr'
      refine ⟨_, rfl, d, _, rfl, DGet.t hd3 hBB, _, rfl, ?_⟩
      cases ev : valV kvs (ky r.fr r.old) with
      | some w' =>
        refine iteF ?_
        refine ⟨_, _, _, _, kvs, rfl, s3, hd3, by omega, ?_⟩
        rw [etake]
        exact (ix.imp ts3).skip (by rw [ev]; exact fun q => nomatch q)
      | none =>
        refine iteT ?_
        refine ⟨_, rfl, _, rfl, (by show 2 ≤ sizeLine; decide), fun V' hV => ?_⟩
        have ndV : d ≠ V' := ne_of_none hd3 hV
        refine ⟨_, rfl, _, rfl, _, rfl, (by show 2 ≤ sizeLine; decide), fun B2 hB2 => ?_⟩
        have nVB : V' ≠ B2 := fun q => by
          rw [← q, upd_same] at hB2
          cases hB2
        have hB20 : H3 B2 = none := by
          rw [upd_ne (Ne.symm nVB)] at hB2
          exact hB2
        have ndB2 : d ≠ B2 := ne_of_none hd3 hB20
        have hd4 : upd (upd H3 V' (.tup [.int (i : Nat), .str r.new])) B2 (.tup [.str (kd r.fr), .str r.old]) d = some (.dT kvs) := by rw [upd_ne ndB2, upd_ne ndV]; exact hd3
        have hBB2 : upd (upd H3 V' (.tup [.int (i : Nat), .str r.new])) B2 (.tup [.str (kd r.fr), .str r.old]) B2 = some (.tup ((ky r.fr r.old).map kV)) := upd_same
        refine ⟨d, _, rfl, DPut.t hd4 hBB2 (by rw [sz]; omega), ?_⟩
        have s4 := ((s3.upd (o := .tup [.int (i : Nat), .str r.new]) (s3.none hV)).upd (o := .tup [.str (kd r.fr), .str r.old]) (s3.none hB20)).upd (o := .dT (putK kvs (ky r.fr r.old) (.ref V'))) hd
        refine ⟨_, _, _, _, putK kvs (ky r.fr r.old) (.ref V'), rfl, s4, upd_same, by rw [put_len ev]; omega, ?_⟩
        rw [etake]
        have lt : (rs.take i).length = i := by rw [List.length_take]; omega
        refine IdxOk.put ix ev (fun c b ec => ?_) ?_
        · have e3 := ts3 c b ec
          have ncd : c ≠ d := ne_of e3 hd3 (by intro q; cases q)
          rw [upd_ne ncd, upd_ne (ne_of_none e3 hB20), upd_ne (ne_of_none e3 hV)]
          exact e3
        · rw [lt, upd_ne (Ne.symm ndV), upd_ne nVB, upd_same]
    · rintro σ Hi ⟨_, _, _, _, kvs, rfl, sm, hdi, lk, ix⟩
      rw [paired_len hrs, List.take_length] at ix
      exact ⟨_, rfl, k d Hi hd ⟨kvs, hdi, by rw [← paired_len hrs]; exact lk, ix⟩ sm⟩
end
end K23
namespace K23
open PySem PySem.Spec PyProof.Rows L2 FL
abbrev sOnce : Stmt := topS 34
section
variable {P : Program} {w : World} {K : PySem.W.Frag} {mg : Str → Option Value} {base : Heap}
theorem scOnce : FnScope ["index", "line", "fitting", "size", "place", "new"] ["index", "line"] (defScope sOnce) := ⟨rfl, rfl, rfl, by decide +kernel, rfl, by decide +kernel, by decide +kernel⟩
theorem pairs_imp {H H' : Hp} : ∀ {xs : List V} {qs : List Pr}, Paired (PairAt H) xs qs → (∀ t a, H t = some (.tup a) → H' t = some (.tup a)) → Paired (PairAt H') xs qs
  | _, _, .nil, _ => .nil
  | _, _, .cons ⟨t, e, h⟩ r, k => .cons ⟨t, e, k _ _ h⟩ (pairs_imp r k)
theorem ok_once {f : Addr} {fd : FuncData} (F : Fun K "turned_once" "turned_once" sOnce f fd) {tk : Tok} (mM : mg "MOST_RULE_SIGNS" = some (.int 40 tk))
    (mN : mg "len" = none) (mR : mg "range" = none) (mI : mg "min" = none) : FnOk P w K mg base CX0 1 f fd ["index", "line"] spOnce := by
  refine F.ok scOnce (fun vs H Q E h => ?_) (fun cdv A outer s H vs Q E hr h => ?_)
  · obtain ⟨_, _, _, rfl, _⟩ := h
    rfl
  · obtain ⟨d, y, rs, rfl, ⟨kvs, hd, lk, ix⟩, ly, lr, k⟩ := h
    have nd := scOnce.nd
    have hu := hu_of hr
    have sz : sizeLine = 16777216 := rfl
    refine ⟨_, pss_cons (ps_set (i := 2) nd rfl (.inl rfl) (pe_lst pa_nil))
      (C8.pss_cut (ps_if (pt_cmp (pc_din hu (pe_tup (pa_cons pe_str (pa_cons (pv 1) pa_nil))) (pv 0)))
        (pss_one (ps_expr (pe_bm PySem.F.plainAttrs_list PySem.F.slot_list_append PySem.F.type_list_append mtAppend (pv 2)
          (pa_cons (pe_dget hu (pv 0) (pe_tup (pa_cons pe_str (pa_cons (pv 1) pa_nil))) (fun _ _ => rfl)) pa_nil)))) pss_nil)
      (pss_cons (ps_for PassesOwn.never rfl (pi_range1 (by rfl) mR (pa_cons (pe_op op_add (pe_callB (call_min2 rfl) (by rfl) mI (by decide +kernel)
            (pa_cons (pe_callB callLen (by rfl) mN PySem.boot_len (pa_cons (pv 1) pa_nil)) (pa_cons (pe_glob (v := .int 40) rfl mM ⟨_, rfl⟩) pa_nil))) pe_int) pa_nil)) (pg_name (i := 3) nd rfl (.inl rfl))
        (pss_one (ps_if (pt_cmp (pc_din hu (pe_tup (pa_cons pe_str (pa_cons (pe_slice sl_str (pv 1) po_none (po_some (pv 3))) pa_nil))) (pv 0)))
          (pss_cons (ps_asg (pe_dget hu (pv 0) (pe_tup (pa_cons pe_str (pa_cons (pe_slice sl_str (pv 1) po_none (po_some (pv 3))) pa_nil))) (fun _ _ => rfl))
            (pg_tup rfl (pgs_cons (pg_name (i := 4) nd rfl (.inl rfl)) (pgs_cons (pg_name (i := 5) nd rfl (.inl rfl)) pgs_nil))))
          (pss_one (ps_expr (pe_bm PySem.F.plainAttrs_list PySem.F.slot_list_append PySem.F.type_list_append mtAppend (pv 2)
            (pa_cons (pe_tup (pa_cons (pv 4) (pa_cons (pe_op op_add_str (pv 5) (pe_slice sl_str (pv 1) (po_some (pv 3)) po_none)) pa_nil))) pa_nil))))) pss_nil)))
      (pss_one (ps_ret (pe_ifExp (pt_truth (pv 2) (by intro _; rfl)) (pe_ix ix_tup (pe_callB (call_minP rfl hr.units) (by rfl) mI (by decide +kernel) (pa_cons (pv 2) pa_nil)) pe_int (fun _ _ => rfl)) (pv 1)))))), ?_⟩
    refine ⟨by decide, fun L hL => ?_⟩
    have ndL : d ≠ L := ne_of_none hd hL
    refine ⟨fun σ' H' => ∃ (xs : List V) (qs : List Pr), σ' = [some (.ref d), some (.str y), some (.ref L), none, none, none] ∧ Same H H' ∧ H' L = some (.lst xs) ∧ Paired (PairAt H') xs qs ∧ qs.length ≤ 1 ∧ Found rs y qs 0, ?_, ?_⟩
    · refine ⟨_, rfl, (by show 2 ≤ sizeLine; decide), fun B hB => ?_⟩
      have s1 : Same H (upd (upd H L (.lst [])) B (.tup [.str (Str.ofString "whole"), .str y])) := by
        refine ((Same.refl H).upd hL).upd ?_
        exact ((Same.refl H).upd hL).none hB
      have hd1 := s1 _ _ hd
      have hBB : upd (upd H L (.lst [])) B (.tup [.str (Str.ofString "whole"), .str y]) B = some (.tup ((ky false y).map kV)) := upd_same
      have nLB : L ≠ B := fun e => by
        rw [← e, upd_same] at hB
        cases hB
      have hL1 : upd (upd H L (.lst [])) B (.tup [.str (Str.ofString "whole"), .str y]) L = some (.lst []) := by rw [upd_ne nLB, upd_same]
      generalize upd (upd H L (.lst [])) B (.tup [.str (Str.ofString "whole"), .str y]) = H1 at s1 hd1 hBB hL1 ⊢
      refine ⟨_, rfl, d, _, rfl, DGet.t hd1 hBB, _, rfl, ?_⟩
      have ix1 : IdxOk H1 kvs rs := ix.imp fun t a e => s1 t _ e
      rcases Found.start (y := y) ix1 with ⟨ev, fd0⟩ | ⟨i, t, new, ev, ht, fd0⟩
      · rw [ev]
        refine iteF ?_
        exact ⟨[], [], rfl, s1, hL1, .nil, Nat.zero_le _, fd0⟩
      · rw [ev]
        refine iteT ?_
        refine ⟨_, rfl, .inl ⟨rfl, _, SqL.of hL1⟩, _, rfl, _, rfl, (by show 2 ≤ sizeLine; decide), fun B2 hB2 => ?_⟩
        have s2 : Same H (upd H1 B2 (.tup [.str (Str.ofString "whole"), .str y])) := s1.upd (s1.none hB2)
        have hd2 := s2 _ _ hd
        have hBB2 : upd H1 B2 (.tup [.str (Str.ofString "whole"), .str y]) B2 = some (.tup ((ky false y).map kV)) := upd_same
        refine ⟨d, _, rfl, by have := DGet.t hd2 hBB2; rw [ev] at this; exact this, ?_⟩
        have nL2 : L ≠ B2 := ne_of_none hL1 hB2
        refine ⟨L, [], _, rfl, rfl, by rw [upd_ne nL2]; exact hL1, (by rw [sz]; decide), ?_⟩
        have ntL : t ≠ L := ne_of ht hL1 (by intro q; cases q)
        refine ⟨[.ref t], [((i : Int), new)], rfl, s2.upd hL, upd_same, .cons ⟨t, rfl, ?_⟩ .nil, Nat.le_refl _, fd0⟩
        rw [upd_ne ntL, upd_ne (ne_of_none ht hB2)]
        exact ht
    · rintro σ' H1 ⟨xs0, qs0, rfl, s1, hL1, hq0, lq0, f0⟩
      refine ⟨_, rfl, _, y.length, rfl, ⟨(by rw [sz]; omega), rfl⟩, _, _, rfl, _, _, rfl, rfl, _, rfl, ?_, ?_, ?_⟩
      · split <;> omega
      · split <;> omega
      have en : ((if (40 : Int) < (y.length : Int) then (40 : Int) else (y.length : Int)) + 1).toNat = min y.length 40 + 1 := by split <;> omega
      rw [en]
      refine for_range (lo := 0) (n := min y.length 40 + 1) (fun i σ Hi => ∃ (o3 o4 o5 : Option V) (xs : List V) (qs : List Pr), σ = [some (.ref d), some (.str y), some (.ref L), o3, o4, o5]
        ∧ Same H Hi ∧ Hi L = some (.lst xs) ∧ Paired (PairAt Hi) xs qs ∧ qs.length ≤ i + 1 ∧ Found rs y qs i) ?_ ?_ ?_
      · exact ⟨_, _, _, xs0, qs0, rfl, s1, hL1, hq0, lq0, f0⟩
      · rintro i σ Hi hi ⟨o3, o4, o5, xs, qs, rfl, si, hLi, hqi, lqi, fi⟩
        have iy : i ≤ y.length := by omega
        have ei : (0 : Int) + (i : Int) = (i : Int) := by omega
        have lc : (cutS y none (some (i : Int))).length ≤ y.length := cutS_length y _ _
        rw [ei]
        refine ⟨_, rfl, _, rfl, _, rfl, y, rfl, (by rw [sz]; omega), (by show 2 ≤ sizeLine; decide), fun B hB => ?_⟩
        have s2 : Same H (upd Hi B (.tup [.str (Str.ofString "front"), .str (cutS y none (some (i : Int)))])) := si.upd (si.none hB)
        have hd2 := s2 _ _ hd
        have hBB : upd Hi B (.tup [.str (Str.ofString "front"), .str (cutS y none (some (i : Int)))]) B = some (.tup ((ky true (cutS y none (some (i : Int)))).map kV)) := upd_same
        have hL2 : upd Hi B (.tup [.str (Str.ofString "front"), .str (cutS y none (some (i : Int)))]) L = some (.lst xs) := by rw [upd_ne (ne_of_none hLi hB)]; exact hLi
        have hq2 : Paired (PairAt (upd Hi B (.tup [.str (Str.ofString "front"), .str (cutS y none (some (i : Int)))]))) xs qs := pairs_imp hqi fun t a e => by rw [upd_ne (ne_of_none e hB)]; exact e
        generalize upd Hi B (.tup [.str (Str.ofString "front"), .str (cutS y none (some (i : Int)))]) = H2 at s2 hd2 hBB hL2 hq2 ⊢
        refine ⟨_, rfl, d, _, rfl, DGet.t hd2 hBB, _, rfl, ?_⟩
        have ix2 : IdxOk H2 kvs rs := ix.imp fun t a e => s2 t _ e
        rcases Found.next ix2 fi iy with ⟨ev, fn⟩ | ⟨j, t, new, ev, ht, ⟨r, hr', en'⟩, fn⟩
        · rw [ev]
          refine iteF ?_
          exact ⟨_, _, _, xs, qs, rfl, s2, hL2, hq2, by omega, fn⟩
        · rw [ev]
          refine iteT ?_
          refine ⟨_, rfl, _, rfl, _, rfl, _, rfl, y, rfl, (by rw [sz]; omega), (by show 2 ≤ sizeLine; decide), fun B2 hB2 => ?_⟩
          have s3 : Same H (upd H2 B2 (.tup [.str (Str.ofString "front"), .str (cutS y none (some (i : Int)))])) := s2.upd (s2.none hB2)
          have hd3 := s3 _ _ hd
          have hBB2 : upd H2 B2 (.tup [.str (Str.ofString "front"), .str (cutS y none (some (i : Int)))]) B2 = some (.tup ((ky true (cutS y none (some (i : Int)))).map kV)) := upd_same
          have hL3 : upd H2 B2 (.tup [.str (Str.ofString "front"), .str (cutS y none (some (i : Int)))]) L = some (.lst xs) := by rw [upd_ne (ne_of_none hL2 hB2)]; exact hL2
          have hq3 : Paired (PairAt (upd H2 B2 (.tup [.str (Str.ofString "front"), .str (cutS y none (some (i : Int)))]))) xs qs := pairs_imp hq2 fun t a e => by rw [upd_ne (ne_of_none e hB2)]; exact e
          have ht3 : upd H2 B2 (.tup [.str (Str.ofString "front"), .str (cutS y none (some (i : Int)))]) t = some (.tup [.int (j : Nat), .str new]) := by rw [upd_ne (ne_of_none ht hB2)]; exact ht
          generalize upd H2 B2 (.tup [.str (Str.ofString "front"), .str (cutS y none (some (i : Int)))]) = H3 at s3 hd3 hBB2 hL3 hq3 ht3 ⊢
          refine ⟨d, _, rfl, by have := DGet.t hd3 hBB2; rw [ev] at this; exact this, ?_⟩
          refine ⟨t, _, rfl, SqT.of ht3, rfl, _, _, rfl, _, _, rfl, rfl, ?_⟩
          have ln : new.length ≤ 1000 := by rw [← en']; exact (lr r hr').2
          have lc2 : (cutS y (some (i : Int)) none).length ≤ y.length := cutS_length y _ _
          refine ⟨_, rfl, .inl ⟨rfl, _, SqL.of hL3⟩, _, rfl, _, rfl, _, rfl, _, rfl, _, rfl, y, rfl, (by rw [sz]; omega), new, cutS y (some (i : Int)) none, rfl, rfl, (by rw [sz]; omega), (by show 2 ≤ sizeLine; decide), fun T hT => ?_⟩
          have nLT : L ≠ T := ne_of_none hL3 hT
          have lx := paired_len hq3
          refine ⟨L, xs, _, rfl, rfl, by rw [upd_ne nLT]; exact hL3, (by rw [sz]; omega), ?_⟩
          refine ⟨_, _, _, xs ++ [.ref T], qs ++ [((j : Int), new ++ cutS y (some (i : Int)) none)], rfl, (s3.upd (s3.none hT)).upd hL, upd_same, ?_, ?_, fn⟩
          · refine paired_snoc (pairs_imp hq3 fun t a e => ?_) ⟨T, rfl, ?_⟩
            · have ntL : t ≠ L := ne_of e hL3 (by intro q; cases q)
              rw [upd_ne ntL, upd_ne (ne_of_none e hT)]
              exact e
            · rw [upd_ne (Ne.symm nLT), upd_same]
          · rw [List.length_append]
            show qs.length + 1 ≤ _
            omega
      · rintro σ Hi ⟨o3, o4, o5, xs, qs, rfl, si, hLi, hqi, lqi, fi⟩
        obtain ⟨t1, t2⟩ := fi.turn fun r hr' e1 e2 => by
          have := (fits_short e2 e1).1
          have := (lr r hr').1
          omega
        have lx := paired_len hqi
        refine ⟨_, rfl, _, .inl ⟨xs, SqL.of hLi, rfl⟩, ?_⟩
        cases hx : xs with
        | nil =>
          rw [hx] at lx
          have e0 : qs = [] := List.length_eq_zero_iff.mp lx.symm
          refine iteF ?_
          refine ⟨_, rfl, ?_⟩
          have := k Hi si
          rw [t1 e0] at this
          exact this
        | cons x0 xs' =>
          refine iteT ?_
          have ne : qs ≠ [] := fun e => by
            rw [hx, e] at lx
            cases lx
          refine ⟨_, rfl, L, xs, qs, rfl, SqL.of hLi, hqi, ne, fun v q hq hv hmin => ?_⟩
          obtain ⟨t, rfl, ht⟩ := hv
          refine ⟨t, _, _, _, rfl, rfl, SqT.of ht, rfl, ?_⟩
          have := k Hi si
          rw [t2 q hq hmin] at this
          exact this
end
end K23
namespace K23
open PySem PySem.Spec PyProof.Rows L2 FL
abbrev sInit : Stmt := inClass (topS 50) 0
section
variable {P : Program} {w : World} {K : PySem.W.Frag} {mg : Str → Option Value} {base : Heap}
abbrev nInit : List Str := ["self", "signs", "rules", "kind", "old", "new"]
theorem scInit : FnScope nInit ["self", "signs", "rules"] (defScope sInit) := ⟨rfl, rfl, rfl, by decide +kernel, rfl, by decide +kernel, by decide +kernel⟩
theorem ok_init {f g h e C : Addr} {fd gd hd ed : FuncData} (F : Fun K "__init__" "Relay.__init__" sInit f fd) (T : RTxt K mg C)
    (G : FnOk P w K mg base CX0 3 g gd ["signs"] spCheckSigns) (bG : Binds K gd ["signs"] []) (kG : PySem.W.keepIn K (.ref g) = true) (mG : mg "check_signs" = some (.ref g))
    (Hk : FnOk P w K mg base CX0 4 h hd ["signs", "rules"] spCheckRules) (bH : Binds K hd ["signs", "rules"] []) (kH : PySem.W.keepIn K (.ref h) = true) (mH : mg "check_rules" = some (.ref h))
    (Ek : FnOk P w K mg base CX0 1 e ed ["rules"] spIndex) (bE : Binds K ed ["rules"] []) (kE : PySem.W.keepIn K (.ref e) = true) (mE : mg "rule_index" = some (.ref e))
    (mN : mg "len" = none) {tk : Tok} (mM : mg "MOST_RULES" = some (.int 400 tk)) : FnOk P w K mg base CX0 5 f fd ["self", "signs", "rules"] (spInit C) := by
  refine F.ok scInit (fun vs H Q E h => ?_) (fun cdv A outer s H vs Q E hr h => ?_)
  · obtain ⟨_, _, _, _, _, rfl, _⟩ := h
    rfl
  · obtain ⟨p, dx, z, v, rs, rfl, hp, hz, ⟨a, xs, t, rfl, ea, hrs⟩, ok, lrs, k⟩ := h
    have nd := scInit.nd
    refine ⟨_, pss_cons (ps_expr (pe_call G (hr.mono (by decide)) (by rfl) mG kG bG .nil pass0 (pa_cons (pv 1) pa_nil)))
      (pss_cons (ps_expr (pe_call Hk hr (by rfl) mH kH bH .nil pass0 (pa_cons (pv 1) (pa_cons (pv 2) pa_nil))))
      (pss_cons (ps_if (pt_cmpR op_gt (pe_callB callLen (by rfl) mN PySem.boot_len (pa_cons (pv 2) pa_nil)) (pe_glob (v := .int 400) rfl mM ⟨_, rfl⟩) (nomark _)) (pss_one ps_never) pss_nil)
      (pss_cons (ps_fld (pv 0) (pv 1) rfl)
      (pss_cons (ps_fld (pv 0) (pe_lc (own := [("kind", 3), ("old", 4), ("new", 5)]) (g := gTup K 3 (gCons (gName 3) (gCons (gName 4) (gCons (gName 5) gNil)))) (tt := tYes) rfl nd
          (pi_seqX t (pv 2)) (blkOk_by (N := nInit) (sc := defScope sInit) (by decide +kernel))
          (fun _ _ _ _ _ => pg_tup rfl (pgs_cons (pg_name (i := 3) nd rfl (Or.inl rfl)) (pgs_cons (pg_name (i := 4) nd rfl (Or.inl rfl)) (pgs_cons (pg_name (i := 5) nd rfl (Or.inl rfl)) pgs_nil))))
          (fun _ _ _ _ _ => pts_nil) (fun _ _ _ _ _ => pe_tup (pa_cons (pv 3) (pa_cons (pv 4) (pa_cons (pv 5) pa_nil))))) rfl)
      (pss_one (ps_fld (pv 0) (pe_call Ek (hr.mono (by decide)) (by rfl) mE kE bE .nil pass0 (pa_cons (pv 2) pa_nil)) rfl)))))), ?_⟩
    have nap : a ≠ p := fun e => by
      rw [e, hp] at ea
      cases t <;> cases ea
    have lx := paired_len hrs
    refine ⟨_, rfl, z, rfl, hz, fun H1 s1 => ?_⟩
    refine ⟨_, rfl, _, rfl, z, _, rs, rfl, ⟨a, xs, t, rfl, s1 _ _ ea, RulesAt.imp hrs fun c b e => s1 c _ e⟩, ok, fun H2 s2 => ?_⟩
    have s12 := s1.trans s2
    have ea2 := s12 _ _ ea
    refine ⟨_, rfl, _, xs.length, rfl, lenX (sqX_of ea2), _, _, rfl, rfl, _, rfl, ?_⟩
    refine ite2 (fun h => absurd (of_decide_eq_true h) (by omega)) (fun _ => ?_)
    have hp2 := s12 _ _ hp
    refine ⟨_, rfl, _, rfl, p, C, dx, [], rfl, hp2, T.cl, T.nS, (by show 0 < 1000; decide), ?_⟩
    have b3 : But p H (upd H2 p (.ins C dx (putF "_signs" (.str z) []))) := fun c o e nc => by rw [upd_ne nc]; exact s12 c o e
    have hp3 : upd H2 p (.ins C dx (putF "_signs" (.str z) [])) p = some (.ins C dx (putF "_signs" (.str z) [])) := upd_same
    generalize upd H2 p (.ins C dx (putF "_signs" (.str z) [])) = H3 at b3 hp3 ⊢
    have ea3 := b3 _ _ ea nap
    refine ⟨_, rfl, a, rfl, ⟨_, sqX_of ea3⟩, fun D hD => ?_⟩
    have npD : p ≠ D := ne_of_none hp3 hD
    have naD : a ≠ D := ne_of_none ea3 hD
    have sz : sizeLine = 16777216 := rfl
    have tp : ∀ c b, H c = some (.tup b) → c ≠ p := fun c b e q => by
      rw [q, hp] at e
      cases e
    refine lc_it (walk_seqX (xs := xs)) (fun i Hi => ∃ ys : List V, But p H Hi ∧ Hi p = some (.ins C dx (putF "_signs" (.str z) [])) ∧ Hi D = some (.lst ys) ∧ H D = none ∧ RulesAt Hi ys (rs.take i)) ?_ ?_ ?_ ?_
    · have hD0 : H D = none := by
        cases e : H D with
        | none => rfl
        | some o =>
          rw [b3 D o e (Ne.symm npD)] at hD
          cases hD
      exact ⟨[], b3.upd hD0, by rw [upd_ne npD]; exact hp3, upd_same, hD0, by rw [List.take_zero]; exact .nil⟩
    · rintro i Hi _ ⟨ys, bi, _⟩
      exact sqX_of (bi _ _ ea nap)
    · rintro i x Hi _ hi ⟨ys, bi, hpi, hDi, hD0, hry⟩ ⟨rfl, hx⟩
      obtain ⟨r, hr', c, rfl, hc⟩ := L2.paired_get hrs hx
      have hci := bi c _ hc (tp c _ hc)
      refine ⟨c, _, rfl, SqT.of hci, rfl, _, _, rfl, _, _, rfl, _, _, rfl, rfl, rfl, ?_⟩
      refine ⟨_, rfl, _, rfl, _, rfl, (by show 3 ≤ sizeLine; decide), fun B hB => ?_⟩
      have nDB : D ≠ B := ne_of_none hDi hB
      have npB : p ≠ B := ne_of_none hpi hB
      have ly := paired_len hry
      refine ⟨ys, by rw [upd_ne nDB]; exact hDi, ?_, ys ++ [.ref B], ?_, ?_, upd_same, hD0, ?_⟩
      · have : (rs.take i).length ≤ rs.length := by rw [List.length_take]; omega
        rw [sz]
        omega
      · intro q o eq nq
        have e1 := bi q o eq nq
        rw [upd_ne (ne_of_none eq hD0), upd_ne (ne_of_none e1 hB)]
        exact e1
      · rw [upd_ne npD, upd_ne npB]
        exact hpi
      · rw [take_snoc hr']
        refine paired_snoc (RulesAt.imp hry fun q b eq => ?_) ⟨B, rfl, ?_⟩
        · have nqD : q ≠ D := ne_of eq hDi (by intro z; cases z)
          rw [upd_ne nqD, upd_ne (ne_of_none eq hB)]
          exact eq
        · rw [upd_ne (Ne.symm nDB), upd_same]
          rfl
    · rintro Hi ⟨ys, bi, hpi, hDi, hD0, hry⟩
      rw [lx, List.take_length] at hry
      refine ⟨_, rfl, p, C, dx, _, rfl, hpi, T.cl, T.nR, (by show 1 < 1000; decide), ?_⟩
      have b4 : But p H (upd Hi p (.ins C dx (putF "_rules" (.ref D) (putF "_signs" (.str z) [])))) := fun c o e nc => by rw [upd_ne nc]; exact bi c o e nc
      have hp4 : upd Hi p (.ins C dx (putF "_rules" (.ref D) (putF "_signs" (.str z) []))) p = some (.ins C dx (putF "_rules" (.ref D) (putF "_signs" (.str z) []))) := upd_same
      have hD4 : upd Hi p (.ins C dx (putF "_rules" (.ref D) (putF "_signs" (.str z) []))) D = some (.lst ys) := by rw [upd_ne (Ne.symm npD)]; exact hDi
      have hr4 : RulesAt (upd Hi p (.ins C dx (putF "_rules" (.ref D) (putF "_signs" (.str z) [])))) ys rs := RulesAt.imp hry fun q b eq => by
        have nqp : q ≠ p := ne_of eq hpi (by intro z; cases z)
        rw [upd_ne nqp]
        exact eq
      generalize upd Hi p (.ins C dx (putF "_rules" (.ref D) (putF "_signs" (.str z) []))) = H4 at b4 hp4 hD4 hr4 ⊢
      have ea4 := b4 _ _ ea nap
      refine ⟨_, rfl, _, rs, rfl, ⟨a, xs, t, rfl, ea4, RulesAt.imp hrs fun c b e => b4 c _ e (tp c b e)⟩, by omega, fun ia H5 hia ixa s5 => ?_⟩
      have hp5 := s5 _ _ hp4
      refine ⟨_, rfl, p, C, dx, _, rfl, hp5, T.cl, T.nI, two_len z D, ?_⟩
      obtain ⟨kvs, hI, lI, ix⟩ := ixa
      have nip : ia ≠ p := ne_of hI hp5 (by intro z; cases z)
      refine k _ D ⟨dx, ia, ys, upd_same, ?_, ?_, kvs, ?_, lI, ?_⟩ hD0 fun c o e nc => ?_
      · rw [upd_ne (Ne.symm npD)]
        exact s5 _ _ hD4
      · refine RulesAt.imp hr4 fun q b eq => ?_
        have nqp : q ≠ p := ne_of eq hp4 (by intro z; cases z)
        rw [upd_ne nqp]
        exact s5 _ _ eq
      · rw [upd_ne nip]
        exact hI
      · refine ix.imp fun q b eq => ?_
        have nqp : q ≠ p := ne_of eq hp5 (by intro z; cases z)
        rw [upd_ne nqp]
        exact eq
      · rw [upd_ne nc]
        exact s5 _ _ (b4 c o e nc)
end
end K23
set_option maxHeartbeats 0
namespace K23
open PySem PySem.Spec PyProof.Rows L2 FL LamX
abbrev R : PySem.W.OpenRow := PySem.W.OpenLaw.row PySem.Challenge.rw_frontlines_k23_whole_products
def gl (x : Str) (K : PySem.W.Frag) : Addr := He.ga K x
def me (m : Str) (K : PySem.W.Frag) : Addr := He.ma K (He.ga K "Relay") m
def getr (K : PySem.W.Frag) : Addr := match PySem.W.recIn K (me "signs" K) "property" with
  | some (.ref g :: _) => g
  | _ => 0
def er (x : Str) (K : PySem.W.Frag) : Addr := He.ma K (He.ga K x) "__init__"
def erD (x q : Str) (i : Nat) : DA := ⟨er x, "__init__", q, inClass (topS i) 0⟩
abbrev lam2 : He.Defn := ("_law_two_right", none)
abbrev lam3 : He.Defn := ("_law_three_right", none)
abbrev lamP : He.Defn := ("_law_powers_right", none)
abbrev lams : List He.Defn := [lam2, lam3, lamP]
def glD (x : Str) (i : Nat) : DA := ⟨gl x, x, x, topS i⟩
def meD (m q : Str) (i : Nat) : DA := ⟨me m, m, q, inClass (topS 50) i⟩
def defs : List DA := [glD "is_integer" 13, glD "is_count" 14, glD "check_count" 26, glD "is_list" 15, glD "is_signs" 16, glD "is_line" 17, glD "line_order" 18, glD "in_order" 19, glD "check_signs" 23, glD "check_same_signs" 24, glD "check_line" 25, glD "is_word" 27, glD "is_rule_line" 28, glD "is_rule" 29, glD "check_rules" 30, glD "rule_index" 33, glD "turned_once" 34, glD "turned_through" 35, glD "beginnings" 36, glD "uneven_lines" 37, glD "is_even_by_signs" 38, glD "uneven_of" 39, glD "check_cells" 40, glD "cells_of" 41, glD "table_of" 42, glD "product_table" 44, glD "uneven_ends" 45, glD "changing_cells" 46, meD "__init__" "Relay.__init__" 0, ⟨getr, "signs", "Relay.signs", inClass (topS 50) 1⟩, meD "rules" "Relay.rules" 2, meD "__call__" "Relay.__call__" 3, meD "__mul__" "Relay.__mul__" 5, meD "power" "Relay.power" 6, meD "is_alike" "Relay.is_alike" 7, meD "__eq__" "Relay.__eq__" 12, meD "__repr__" "Relay.__repr__" 13, erD "TooMany" "TooMany.__init__" 10, glD "_law_pot" 52, glD "_law_draw" 53, glD "_law_pick" 54, glD "_law_mixed" 55, glD "_law_abc" 56, glD "_law_note" 57, glD "_law_deals" 58, glD "_law_turn" 59, glD "_law_through" 60, glD "_law_notes" 61, glD "_law_is_short" 62, glD "_law_cells" 63, glD "_law_changed" 64, glD "_law_heard" 65, glD "_law_due" 66, glD "_law_two_right" 67, glD "_law_three_right" 68, glD "_law_identity_right" 69, glD "_law_powers_right" 70, glD "_law_right" 71, glD "law" 72]
def free1 : List Str := ["isinstance", "str", "len", "all", "zip", "list", "tuple", "enumerate", "range", "min", "divmod", "int", "abs", "max", "sorted", "repr", "dict", "bool", "ArithmeticError"]
def glos : List Str := ["is_integer", "is_count", "check_count", "is_list", "is_signs", "is_line", "line_order", "in_order", "check_signs", "check_same_signs", "check_line", "is_word", "is_rule_line", "is_rule", "check_rules", "rule_index", "turned_once", "turned_through", "beginnings", "uneven_lines", "is_even_by_signs", "uneven_of", "check_cells", "cells_of", "table_of", "product_table", "uneven_ends", "changing_cells"]
def glos2 : List Str := ["_law_pot", "_law_draw", "_law_pick", "_law_mixed", "_law_abc", "_law_note", "_law_deals", "_law_turn", "_law_through", "_law_notes", "_law_is_short", "_law_cells", "_law_changed", "_law_heard", "_law_due", "_law_two_right", "_law_three_right", "_law_identity_right", "_law_powers_right", "_law_right", "law", "Relay", "LimitError", "TooMany"]
/-- what is needed of the class besides -/
def relB (K : PySem.W.Frag) (C : Addr) : Bool :=
  He.eqO (PySem.W.specialIn K (.ref (He.ma K C "signs")) "__get__") (some (some (.builtin "property.__get__")))
  && (decide (PySem.W.takesIn K (.ref (He.ma K C "signs")) = some true)
  && (He.eqO (PySem.W.findIn K (.ref C) "signs") (some (some (.ref (He.ma K C "signs"))))
  && (He.eqO (PySem.W.findIn K (.ref C) "__call__") (some (some (.ref (He.ma K C "__call__"))))
  && (PySem.W.isFn K (.ref (He.ma K C "__call__")) && (PySem.W.fnIn K (He.ma K C "__call__")
  && (He.eqO (PySem.W.findIn K (.ref C) "__class__") (some (some (.builtin "object.__class__")))
  && (decide (PySem.W.mroIn K C (.type "object") = some true)
  && (decide (PySem.W.kitOne K (.ref C) (.ref C) = some true)
  && (FL.kinds.all (fun n => decide (PySem.W.kitOne K (.type n) (.ref C) = some false) && decide (PySem.W.mroIn K C (.type n) = some false))
  && He.eqO (PySem.W.findIn K (.ref C) "__ne__") (some (some (.builtin "object.__ne__"))))))))))))
def recB (K : PySem.W.Frag) : Bool := match PySem.W.recIn K (me "signs" K) "property" with
  | some (.ref g :: _) => true
  | _ => false
def exs (K : PySem.W.Frag) : Bool :=
  glos.all (fun x => (He.Fa.glo x).ok K)
  && (glos2.all (fun x => (He.Fa.glo x).ok K)
  && (free1.all (fun x => (He.Fa.free x).ok K)
  && ((He.Fa.int "MOST_RULE_SIGNS" 40).ok K
  && ((He.Fa.int "MOST_RULES" 400).ok K
  && ((He.Fa.int "MOST_CELLS" 400).ok K
  && ((He.Fa.int "MOST_TIMES" 60).ok K
  && ((He.Fa.str "SIGN_CHARACTERS" signChars).ok K
  && ((He.Fa.glo "RULE_WORDS").ok K
  && (He.tupB K "RULE_WORDS" [.str (Str.ofString "front"), .str (Str.ofString "whole")]
  && ((He.Fa.cls "Relay").ok K
  && ((He.Fa.noat "Relay" "_signs").ok K
  && ((He.Fa.noat "Relay" "_rules").ok K
  && ((He.Fa.noat "Relay" "_index").ok K
  && ((He.Fa.mkr "Relay").ok K
  && ((He.Fa.meth "Relay" "rules").ok K
  && ((He.Fa.meth "Relay" "power").ok K
  && ((He.Fa.meth "Relay" "is_alike").ok K
  && ((He.Fa.meth "Relay" "__mul__").ok K
  && ((He.Fa.meth "Relay" "__eq__").ok K
  && ((He.Fa.meth "Relay" "__repr__").ok K
  && (PySem.W.selfFirst K (He.ga K "Relay")
  && (egB2 K tlA "ArithmeticError.__new__" "what" "limit" (He.ga K "TooMany") (er "TooMany" K)
  && (decide (PySem.W.exmOne K (.ref (He.ga K "TooMany")) (.ref (He.ga K "TooMany")) = some true)
  && (decide (PySem.W.kitOne K (.ref (He.ga K "TooMany")) (.ref (He.ga K "LimitError")) = some true)
  && (decide (PySem.W.kitOne K (.ref (He.ga K "TooMany")) (.type "ArithmeticError") = some true)
  && (decide (¬ (He.cT K lam2).2 = (He.cT K lam3).2)
  && (decide (¬ (He.cT K lam2).2 = (He.cT K lamP).2)
  && (decide (¬ (He.cT K lam3).2 = (He.cT K lamP).2)
  && (recB K
  && (relB K (He.ga K "Relay")))))))))))))))))))))))))))))))
def loose1 : List Str := ["_wall", "__name__", "LineError", "InvalidSigns", "InvalidLine", "InvalidCount", "InvalidRules", "StateError", "OtherSigns", "LimitError", "TooMany", "SIGN_CHARACTERS", "is_integer", "is_count", "is_list", "is_signs", "is_line", "line_order", "in_order", "RULE_WORDS", "MOST_RULE_SIGNS", "check_signs", "check_same_signs", "check_line", "check_count"]
def loose2 : List Str := ["is_word", "is_rule_line", "is_rule", "check_rules", "MOST_CELLS", "rule_index", "turned_once", "turned_through", "beginnings", "uneven_lines", "is_even_by_signs", "uneven_of", "check_cells", "cells_of", "table_of", "limited_table", "product_table", "uneven_ends", "changing_cells", "MOST_RULES", "MOST_TIMES", "Relay", "_law_pot", "_law_draw", "_law_pick"]
def loose3 : List Str := ["_law_mixed", "_law_abc", "_law_note", "_law_deals", "_law_turn", "_law_through", "_law_notes", "_law_is_short", "_law_cells", "_law_changed", "_law_heard", "_law_due", "_law_two_right", "_law_three_right", "_law_identity_right", "_law_powers_right", "_law_right"]
def loose : List Str := loose1 ++ (loose2 ++ (loose3))
def tbs : Tbs := []
def ads : List Addr := [3, 152, 172, 181, 188, 195, 200, 207, 214, 221, 222, 229, 236, 243, 250, 257, 264, 271, 278, 285, 292, 299, 306, 313, 320, 327, 334, 339, 346, 360, 367, 372, 479, 490, 497, 504, 509, 516, 521, 528, 535, 542, 547, 554, 559, 564, 571, 576, 581, 588, 595, 602, 607, 612, 151, 171, 180, 187, 194, 199, 206, 213, 220, 228, 235, 242, 249, 256, 263, 270, 277, 284, 291, 298, 305, 312, 319, 326, 333, 338, 345, 359, 366, 371, 478, 489, 496, 503, 508, 515, 520, 527, 534, 541, 546, 553, 558, 563, 570, 575, 580, 587, 594, 601, 606, 611, 169, 384, 392, 399, 406, 420, 427, 434, 469, 476, 168, 383, 391, 398, 405, 419, 426, 433, 468, 475, 390]
abbrev hk : PySem.W.Hook := hookL ads defs exs tbs lams
def ob (s : PySem.W.SharedT) : SawL := obL ads defs exs tbs lams s
end K23
set_option maxHeartbeats 0
namespace K23
open PySem PySem.W PySem.Calls PySem.Spec PyProof.Rows L2 FL
theorem run (w : World) : HandSHeadRun.RunEq R (view R.prog [72]) hk ob 20000 loose w := by
  intro os
  kernel_rfl
end K23
namespace K23
open PySem PySem.Spec PyProof.Rows L2 FL
abbrev sGet : Stmt := inClass (topS 50) 1
abbrev sRules : Stmt := inClass (topS 50) 2
abbrev sCall : Stmt := inClass (topS 50) 3
abbrev sEq : Stmt := inClass (topS 50) 12
abbrev sRepr : Stmt := inClass (topS 50) 13
section
variable {P : Program} {w : World} {K : PySem.W.Frag} {mg : Str → Option Value} {base : Heap}
theorem scGet : FnScope ["self"] ["self"] (defScope sGet) := ⟨rfl, rfl, rfl, by decide +kernel, rfl, by decide +kernel, by decide +kernel⟩
theorem scRules : FnScope ["self"] ["self"] (defScope sRules) := ⟨rfl, rfl, rfl, by decide +kernel, rfl, by decide +kernel, by decide +kernel⟩
theorem scCall : FnScope ["self", "line"] ["self", "line"] (defScope sCall) := ⟨rfl, rfl, rfl, by decide +kernel, rfl, by decide +kernel, by decide +kernel⟩
theorem scEq : FnScope ["self", "other"] ["self", "other"] (defScope sEq) := ⟨rfl, rfl, rfl, by decide +kernel, rfl, by decide +kernel, by decide +kernel⟩
theorem scRepr : FnScope ["self"] ["self"] (defScope sRepr) := ⟨rfl, rfl, rfl, by decide +kernel, rfl, by decide +kernel, by decide +kernel⟩
theorem ok_get {f C : Addr} {fd : FuncData} (F : Fun K "signs" "Relay.signs" sGet f fd) (T : RTxt K mg C) : FnOk P w K mg base CX0 1 f fd ["self"] (spGet C) := by
  refine F.ok scGet (fun vs H Q E h => ?_) (fun cdv A outer s H vs Q E hr h => ?_)
  · obtain ⟨_, _, _, rfl, _⟩ := h
    rfl
  · obtain ⟨p, z, rs, rfl, ⟨dx, ra, ia, xs, h1, h2, h3, h4⟩, k⟩ := h
    refine ⟨_, pss_one (ps_ret (pe_fld (pv 0) rfl)), ?_⟩
    exact ⟨_, rfl, p, C, dx, _, _, rfl, h1, T.cl, T.nS, flds_signs z ra ia, k⟩
theorem ok_rules {f C : Addr} {fd : FuncData} (F : Fun K "rules" "Relay.rules" sRules f fd) (T : RTxt K mg C) (mL : mg "list" = none) : FnOk P w K mg base CX0 1 f fd ["self"] (spRules C) := by
  refine F.ok scRules (fun vs H Q E h => ?_) (fun cdv A outer s H vs Q E hr h => ?_)
  · obtain ⟨_, _, _, rfl, _⟩ := h
    rfl
  · obtain ⟨p, z, rs, rfl, ⟨dx, ra, ia, xs, h1, h2, h3, h4⟩, k⟩ := h
    refine ⟨_, pss_one (ps_ret (pe_callTy call_list_of (by rfl) mL (by decide +kernel) (pa_cons (pe_fld (pv 0) rfl) pa_nil))), ?_⟩
    refine ⟨_, rfl, p, C, dx, _, _, rfl, h1, T.cl, T.nR, flds_rules z ra ia, ra, xs, rfl, .inl (SqL.of h2), fun D hD => ?_⟩
    have sm : Same H (upd H D (.lst xs)) := (Same.refl H).upd hD
    exact k D xs _ hD upd_same (Same.rules sm h3) sm
theorem ok_call {f g h C : Addr} {fd gd hd : FuncData} (F : Fun K "__call__" "Relay.__call__" sCall f fd) (T : RTxt K mg C)
    (G : FnOk P w K mg base CX0 2 g gd ["signs", "line"] spCheckLine) (bG : Binds K gd ["signs", "line"] []) (kG : PySem.W.keepIn K (.ref g) = true) (mG : mg "check_line" = some (.ref g))
    (Hk : FnOk P w K mg base CX0 1 h hd ["index", "line"] spOnce) (bH : Binds K hd ["index", "line"] []) (kH : PySem.W.keepIn K (.ref h) = true) (mH : mg "turned_once" = some (.ref h)) :
    FnOk P w K mg base CX0 3 f fd ["self", "line"] (spCall C) := by
  refine F.ok scCall (fun vs H Q E h => ?_) (fun cdv A outer s H vs Q E hr h => ?_)
  · obtain ⟨_, _, _, _, rfl, _⟩ := h
    rfl
  · obtain ⟨p, z, rs, y, rfl, ⟨dx, ra, ia, xs, h1, h2, h3, h4⟩, oy, ly, lr, k⟩ := h
    refine ⟨_, pss_cons (ps_expr (pe_call G hr (by rfl) mG kG bG .nil pass0 (pa_cons (pe_fld (pv 0) rfl) (pa_cons (pv 1) pa_nil))))
      (pss_one (ps_ret (pe_call Hk (hr.mono (by decide)) (by rfl) mH kH bH .nil pass0 (pa_cons (pe_fld (pv 0) rfl) (pa_cons (pv 1) pa_nil))))), ?_⟩
    refine ⟨_, rfl, p, C, dx, _, _, rfl, h1, T.cl, T.nS, flds_signs z ra ia, _, rfl, z, y, rfl, oy, Nat.le_trans ly (by decide), ?_⟩
    exact ⟨_, rfl, p, C, dx, _, _, rfl, h1, T.cl, T.nI, flds_index z ra ia, _, rfl, ia, y, rs, rfl, h4, ly, lr, k⟩
theorem ok_eq {f C : Addr} {fd : FuncData} (F : Fun K "__eq__" "Relay.__eq__" sEq f fd) (T : RTxt K mg C) (I : IsT K C) (mI : mg "isinstance" = none) : FnOk P w K mg base CX0 1 f fd ["self", "other"] (spEqR C) := by
  refine F.ok scEq (fun vs H Q E h => ?_) (fun cdv A outer s H vs Q E hr h => ?_)
  · obtain ⟨_, _, _, _, _, rfl, _⟩ := h
    rfl
  · obtain ⟨p, z, rs, b, v, rfl, ⟨dx, ra, ia, xs, h1, h2, h3, h4⟩, rp, k⟩ := h
    refine ⟨_, pss_one (ps_ret (pe_and (pe_callB call_isi (by rfl) mI (by decide +kernel) (pa_cons (pv 1) (pa_cons (pe_glob (v := .ref C) rfl T.mgC rfl) pa_nil)))
      (pe_and (pe_cmpR op_eq (pe_fld (pv 0) rfl) (pe_fld (pv 1) rfl) (nomark _)) (pe_one (pe_cmpR (op_eqD hr.units) (pe_fld (pv 0) rfl) (pe_fld (pv 1) rfl) (nomark _)))))), ?_⟩
    rcases k with ⟨n, an, k⟩ | ⟨q, rs', rfl, ⟨dy, rb, ib, ys, g1, g2, g3, g4⟩, rp', k⟩
    · exact ⟨_, rfl, v, .ref C, _, _, false, rfl, .own C, an.tyx, I.oth n an.kind, _, rfl, k⟩
    · refine ⟨_, rfl, _, .ref C, _, _, true, rfl, .own C, I.ins g1, I.self, _, rfl, ?_⟩
      refine ⟨_, rfl, p, C, dx, _, _, rfl, h1, T.cl, T.nS, flds_signs z ra ia, _, rfl, q, C, dy, _, _, rfl, g1, T.cl, T.nS, flds_signs z rb ib, rfl, ?_⟩
      rw [decide_eq_true (show V.str z = V.str z from rfl)]
      refine ⟨_, rfl, ?_⟩
      exact ⟨_, rfl, p, C, dx, _, _, rfl, h1, T.cl, T.nR, flds_rules z ra ia, _, rfl, q, C, dy, _, _, rfl, g1, T.cl, T.nR, flds_rules z rb ib, _, _, dp_list (SqL.of h2) h3, dp_list (SqL.of g2) g3, rp.sm.shaped, rp'.sm.shaped, k⟩
theorem ok_repr {f C : Addr} {fd : FuncData} (F : Fun K "__repr__" "Relay.__repr__" sRepr f fd) (T : RTxt K mg C) : FnG P w K mg base CX0 1 f fd ["self"] (spReprR C) := by
  refine okG F scRepr (fun vs H Q E h => ?_) (fun cdv A outer s H vs Q E hr hg h => ?_)
  · obtain ⟨_, _, _, rfl, _⟩ := h
    rfl
  · obtain ⟨p, z, rs, rfl, ⟨dx, ra, ia, xs, h1, h2, h3, h4⟩, az, rp, lr, k⟩ := h
    have sz : sizeLine = 16777216 := rfl
    refine ⟨_, pss_one (ps_ret (pe_joined (.cons pe_str (.cons (pe_fmtR (pe_fld (pv 0) rfl)) (.cons pe_str (.cons (pe_fmtL hg hr.units (pe_fld (pv 0) rfl)) (.cons pe_str .nil))))))), ?_⟩
    have l1 : (reprText z).length ≤ 42 := repr_abc az
    have sm := rp.sm40 lr
    have l2 : ((PyData.list (rs.map ruleD)).shown).length ≤ 400000 := sm.len
    have e1 : (Str.ofString "Relay(").length = 6 := by decide +kernel
    have e2 : (Str.ofString ", ").length = 2 := by decide +kernel
    have e3 : (Str.ofString ")").length = 1 := by decide +kernel
    have e0 : Str.empty.length = 0 := by decide +kernel
    refine ⟨_, rfl, (by rw [len_app, sz]; omega), ?_⟩
    refine ⟨_, rfl, p, C, dx, _, _, rfl, h1, T.cl, T.nS, flds_signs z ra ia, .inl ⟨z, rfl, (by rw [sz]; omega), _, rfl, (by rw [len_app, len_app, sz]; omega), ?_⟩⟩
    refine ⟨_, rfl, (by rw [len_app, len_app, len_app, sz]; omega), ?_⟩
    refine ⟨_, rfl, p, C, dx, _, _, rfl, h1, T.cl, T.nR, flds_rules z ra ia, ra, xs, _, rfl, SqL.of h2, dp_list (SqL.of h2) h3, sm.nd, sm.nice (by decide), _, rfl, (by rw [len_app, len_app, len_app, len_app, sz]; omega), ?_⟩
    refine ⟨_, rfl, (by rw [len_app, len_app, len_app, len_app, len_app, sz]; omega), ?_⟩
    exact k
end
end K23
namespace K23
open PySem PySem.Spec PyProof.Rows L2 FL
abbrev sOrder : Stmt := topS 18
abbrev sInOrder : Stmt := topS 19
section
variable {P : Program} {w : World} {K : PySem.W.Frag} {mg : Str → Option Value} {base : Heap}
theorem scOrder : FnScope ["line"] ["line"] (defScope sOrder) :=
  ⟨rfl, rfl, rfl, by decide +kernel, rfl, by decide +kernel, by decide +kernel⟩
theorem ok_order {f : Addr} {fd : FuncData} (F : Fun K "line_order" "line_order" sOrder f fd) (mL : mg "len" = none) :
    FnOk P w K mg base CX0 1 f fd ["line"] spOrder := by
  refine F.ok scOrder (fun vs H Q E h => ?_) (fun cdv A outer s H vs Q E hr h => ?_)
  · obtain ⟨b, rfl, _⟩ := h
    rfl
  · obtain ⟨b, rfl, hb, k⟩ := h
    refine ⟨_, pss_one (ps_ret (pe_tup (pa_cons (pe_callB callLen (by rfl) mL (by decide +kernel) (pa_cons (pv 0) pa_nil)) (pa_cons (pv 0) pa_nil)))), ?_⟩
    refine ⟨_, rfl, _, _, rfl, ⟨hb, rfl⟩, _, rfl, by show 2 ≤ sizeLine; decide, fun p hp => ?_⟩
    exact k p hp
theorem scInOrder : FnScope ["lines"] ["lines"] (defScope sInOrder) :=
  ⟨rfl, rfl, rfl, by decide +kernel, rfl, by decide +kernel, by decide +kernel⟩
/-- in_order of a dict's keys, or of a list -/
def spInOrder (K : PySem.W.Frag) : Sp := fun vs H Q _ => ∃ (l : Addr) (bs : List Str), vs = [.ref l] ∧ (∃ kvs, H l = some (.dK kvs) ∧ kvs.map (·.1) = bs.map Sum.inr) ∧ (∀ b ∈ bs, b.length ≤ sizeLine)
  ∧ ∀ H' a, (∀ b o, H b = some o → H' b = some o) → H a = none → H' a = some (.lst ((ordL bs).map V.str)) → Q (.ref a) H'
theorem ok_inOrder {f g : Addr} {fd gd : FuncData} (F : Fun K "in_order" "in_order" sInOrder f fd) (mS : mg "sorted" = none) (mL : mg "list" = none) (mO : mg "line_order" = some (.ref g))
    (G : FnOk P w K mg base CX0 1 g gd ["line"] spOrder) (bG : Binds K gd ["line"] []) :
    FnOk P w K mg base CX0 4 f fd ["lines"] (spInOrder K) := by
  refine F.ok scInOrder (fun vs H Q E h => ?_) (fun cdv A outer s H vs Q E hr h => ?_)
  · obtain ⟨l, bs, rfl, _⟩ := h
    rfl
  · obtain ⟨l, bs, rfl, ⟨kvs, hl, hk⟩, hb, k⟩ := h
    refine ⟨_, pss_one (ps_ret (pe_callBK (call_sortF G bG (hr.mono (by decide))) (by rfl) mS (by decide +kernel)
      (pa_cons (pe_callTy (call_list_dK rfl) (by rfl) mL (by decide +kernel) (pa_cons (pv 0) pa_nil)) pa_nil)
      (pk_cons (pe_glob (v := .ref g) (by rfl) mO rfl) pk_nil))), ?_⟩
    refine ⟨_, rfl, l, kvs, rfl, hl, fun q hq => ?_⟩
    have e1 : kvs.map (fun kv => kV kv.1) = bs.map V.str := by
      have e2 : kvs.map (fun kv => kV kv.1) = (kvs.map (·.1)).map kV := by rw [List.map_map]; rfl
      rw [e2, hk, List.map_map]
      rfl
    rw [e1]
    have kp : ∀ b o, H b = some o → (upd H q (.lst (bs.map V.str))) b = some o := fun b o e => by rw [upd_ne (ne_of_none e hq)]; exact e
    refine ⟨q, bs, rfl, rfl, SqL.of upd_same, hb, fun H' a k2 na ha => ?_⟩
    refine k H' a (fun b o e => k2 b o (kp b o e)) ?_ ha
    cases e : H a with
    | none => rfl
    | some o =>
      rw [kp a o e] at na
      cases na
end
end K23
namespace K23
open PySem PySem.Spec PyProof.Rows L2 FL
abbrev sBegin : Stmt := topS 36
/-- the beginnings that rules ask for -/
def Asked (rs : List Rule) (b : Str) : Prop := ∃ r ∈ rs, ls b <+: ls r.old
def spBegin : Sp := fun vs H Q _ => ∃ (d : Addr) (rs : List Rule), vs = [.ref d] ∧ IdxAt H d rs ∧ rs.length ≤ 10000 ∧ (∀ r ∈ rs, r.old.length ≤ 40) ∧
  ∀ H' a bs, Same H H' → H a = none → H' a = some (.lst ((ordL bs).map V.str)) → bs.Nodup → (∀ b, b ∈ bs ↔ Asked rs b) → bs.length ≤ 410000 → Q (.ref a) H'
theorem idx_asked {H : Hp} {kvs : List (List Key × V)} {rs : List Rule} (ix : IdxOk H kvs rs) (b : Str) : (∃ (fr : Bool) (old : Str) (v : V), (ky fr old, v) ∈ kvs ∧ ls b <+: ls old) ↔ Asked rs b := by
  constructor
  · rintro ⟨fr, old, v, hm, hp⟩
    rcases ix.2 fr old with ⟨h1, _⟩ | ⟨i, t, new, h1, h2, h3, _⟩
    · have e : (kvs.any fun kv => decide (kv.1 = ky fr old)) = true := List.any_eq_true.mpr ⟨_, hm, decide_eq_true rfl⟩
      rw [valV_any, h1] at e
      cases e
    · exact ⟨_, List.mem_of_getElem? h3, hp⟩
  · rintro ⟨r, hr, hp⟩
    rcases ix.2 r.fr r.old with ⟨_, h2⟩ | ⟨i, t, new, h1, _⟩
    · exact absurd ⟨rfl, rfl⟩ (h2 r hr)
    · have e : (kvs.any fun kv => decide (kv.1 = ky r.fr r.old)) = true := by rw [valV_any, h1]; rfl
      obtain ⟨kv, hm, q⟩ := List.any_eq_true.mp e
      have q' := of_decide_eq_true q
      exact ⟨r.fr, r.old, kv.2, by rw [← q']; exact hm, hp⟩
section
variable {P : Program} {w : World} {K : PySem.W.Frag} {mg : Str → Option Value} {base : Heap}
abbrev nBegin : List Str := ["index", "found", "_", "old", "size"]
theorem scBegin : FnScope nBegin ["index"] (defScope sBegin) :=
  ⟨rfl, rfl, rfl, by decide +kernel, rfl, by decide +kernel, by decide +kernel⟩
theorem ok_begin {f g : Addr} {fd gd : FuncData} (F : Fun K "beginnings" "beginnings" sBegin f fd) (mR : mg "range" = none) (mN : mg "len" = none) (mO : mg "in_order" = some (.ref g)) (kG : PySem.W.keepIn K (.ref g) = true)
    (G : FnOk P w K mg base CX0 4 g gd ["lines"] (spInOrder K)) (bG : Binds K gd ["lines"] []) :
    FnOk P w K mg base CX0 5 f fd ["index"] spBegin := by
  refine F.ok scBegin (fun vs H Q E h => ?_) (fun cdv A outer s H vs Q E hr h => ?_)
  · obtain ⟨d, rs, rfl, _⟩ := h
    rfl
  · obtain ⟨d, rs, rfl, ⟨kvs, hd, hkl, ix⟩, hrl, hol, k⟩ := h
    have nd := scBegin.nd
    have hu := hu_of hr
    refine ⟨_, pss_cons (ps_set (i := 1) nd rfl (.inl rfl) pe_dnewK)
      (pss_cons (ps_lock (ps_for PassesOwn.never rfl (pi_keys (pv 0)) (pg_tup rfl (pgs_cons (pg_name (i := 2) nd rfl (.inl rfl)) (pgs_cons (pg_name (i := 3) nd rfl (.inl rfl)) pgs_nil)))
        (pss_one (ps_for PassesOwn.never rfl (pi_range1 (by rfl) mR (pa_cons (pe_op op_add (pe_callB callLen (by rfl) mN PySem.boot_len (pa_cons (pv 3) pa_nil)) pe_int) pa_nil)) (pg_name (i := 4) nd rfl (.inl rfl))
          (pss_one (ps_dput hu (pv 1) (pe_slice sl_str (pv 3) po_none (po_some (pv 4))) pe_bl rfl))))))
      (pss_one (ps_ret (pe_call G hr (by rfl) mO kG bG .nil pass0 (pa_cons (pv 1) pa_nil))))), ?_⟩
    intro L hL
    have ndL : d ≠ L := ne_of_none hd hL
    have hd1 : upd H L (.dK []) d = some (.dT kvs) := by rw [upd_ne ndL]; exact hd
    refine ⟨d, _, hd1, trivial, fun od => ?_⟩
    have sz : sizeLine = 16777216 := rfl
    have h0L : upd H d (.frz od (.dT kvs)) L = none := by rw [upd_ne (Ne.symm ndL)]; exact hL
    have s0 : Same (upd H d (.frz od (.dT kvs))) (upd (upd H L (.dK [])) d (.frz od (.dT kvs))) := fun c u e => by
      by_cases hc : c = d
      · rw [hc, upd_same] at e ⊢
        exact e
      · rw [upd_ne hc] at e ⊢
        rw [upd_ne (ne_of_none e hL)]
        exact e
    have h00 : upd (upd H L (.dK [])) d (.frz od (.dT kvs)) L = some (.dK []) := by rw [upd_ne (Ne.symm ndL), upd_same]
    have hfz : upd H d (.frz od (.dT kvs)) d = some (.frz od (.dT kvs)) := upd_same
    have hlen : ∀ fr old v, (ky fr old, v) ∈ kvs → old.length ≤ 40 := fun fr old v hm => by
      obtain ⟨r, hr, hp⟩ := (idx_asked ix old).mp ⟨fr, old, v, hm, List.prefix_rfl⟩
      have h1 := hp.length_le
      have h2 := hol r hr
      rw [str_len] at h2 ⊢
      exact Nat.le_trans h1 h2
    refine ⟨_, rfl, d, od, rfl, .inr ⟨kvs, upd_same, for_it walk_keysT (fun j σ Hi => ∃ (o2 o3 o4 : Option V) (ks : List (Key × V)) (bs : List Str), σ = [some (.ref d), some (.ref L), o2, o3, o4]
      ∧ Same (upd H d (.frz od (.dT kvs))) Hi ∧ Hi L = some (.dK ks) ∧ KeysOf ks bs ∧ bs.length ≤ 41 * j
      ∧ ∀ b, b ∈ bs ↔ ∃ (fr : Bool) (old : Str) (v : V), (ky fr old, v) ∈ kvs.take j ∧ ls b <+: ls old) ?_ ?_ ?_ ?_⟩⟩
    · refine ⟨_, _, _, [], [], rfl, s0, h00, ⟨rfl, List.nodup_nil⟩, Nat.zero_le _, fun b => ⟨(fun z => nomatch z), ?_⟩⟩
      rintro ⟨_, _, _, z, _⟩
      rw [List.take_zero] at z
      cases z
    · rintro i σ Hi _ ⟨_, _, _, _, _, _, s1, _⟩
      exact s1 _ _ hfz
    · rintro i x σ Hi H' hi ⟨o2, o3, o4, ks, bs, rfl, s1, hLi, hk, hbl, hm⟩ ⟨rfl, key, v, q, hkv, rfl, hq⟩
      obtain ⟨fr, old, ek⟩ := ix.1 _ (List.mem_of_getElem? hkv)
      have ek' : key = ky fr old := ek
      subst ek'
      have lo := hlen fr old v (List.mem_of_getElem? hkv)
      refine ⟨q, _, rfl, SqT.of hq, rfl, ?_⟩
      refine ⟨_, _, rfl, _, _, rfl, rfl, _, rfl, .str old, old.length, rfl, ⟨(by rw [sz]; omega), rfl⟩, _, _, rfl, rfl, _, rfl, (by omega), (by omega), ?_⟩
      have en : ((old.length : Int) + 1).toNat = old.length + 1 := by omega
      rw [en]
      have etk : kvs.take (i + 1) = kvs.take i ++ [(ky fr old, v)] := take_snoc hkv
      refine for_range (lo := 0) (n := old.length + 1) (fun m σ Hj => ∃ (o4 : Option V) (ks : List (Key × V)) (bs : List Str), σ = [some (.ref d), some (.ref L), some (.str (kd fr)), some (.str old), o4]
        ∧ Same (upd H d (.frz od (.dT kvs))) Hj ∧ Hj L = some (.dK ks) ∧ KeysOf ks bs ∧ bs.length ≤ 41 * i + m
        ∧ ∀ b, b ∈ bs ↔ (∃ (fr : Bool) (old : Str) (v : V), (ky fr old, v) ∈ kvs.take i ∧ ls b <+: ls old) ∨ ∃ n, n < m ∧ ls b = (ls old).take n) ?_ ?_ ?_
      · exact ⟨_, ks, bs, rfl, s1, hLi, hk, by omega, fun b => ⟨fun z => .inl ((hm b).mp z), fun z => z.elim (hm b).mpr fun ⟨n, hn, _⟩ => absurd hn (Nat.not_lt_zero n)⟩⟩
      · rintro m σ Hj hm2 ⟨o4', ks, bs, rfl, s2, hLj, hk2, hbl2, hmm⟩
        have em : (0 : Int) + (m : Int) = (m : Int) := by omega
        rw [em]
        refine ⟨_, rfl, _, rfl, _, rfl, _, rfl, old, rfl, (by rw [sz]; omega), L, _, rfl, DPut.k (k := Sum.inr (cutS old none (some (m : Int)))) hLj (by rw [hk2.len, sz]; omega), ?_⟩
        refine ⟨_, _, _, rfl, s2.upd h0L, upd_same, hk2.put _ _, Nat.le_trans (addB_len _ _) (by omega), fun b => ?_⟩
        rw [mem_addB, hmm b]
        constructor
        · rintro ((z | ⟨n, hn, z⟩) | z)
          · exact .inl z
          · exact .inr ⟨n, by omega, z⟩
          · exact .inr ⟨m, by omega, by rw [z, cut_take]⟩
        · rintro (z | ⟨n, hn, z⟩)
          · exact .inl (.inl z)
          · by_cases hnm : n = m
            · right
              apply ls_inj
              rw [z, hnm, cut_take]
            · exact .inl (.inr ⟨n, by omega, z⟩)
      · rintro σ Hj ⟨o4', ks, bs, rfl, s2, hLj, hk2, hbl2, hmm⟩
        refine ⟨_, _, _, ks, bs, rfl, s2, hLj, hk2, by omega, fun b => ?_⟩
        rw [hmm b, etk]
        constructor
        · rintro (⟨fr2, old2, v2, z1, z2⟩ | ⟨n, _, z⟩)
          · exact ⟨fr2, old2, v2, List.mem_append_left _ z1, z2⟩
          · exact ⟨fr, old, v, List.mem_append_right _ (List.mem_singleton.mpr rfl), by rw [z]; exact List.take_prefix _ _⟩
        · rintro ⟨fr2, old2, v2, z1, z2⟩
          rcases List.mem_append.mp z1 with z1 | z1
          · exact .inl ⟨fr2, old2, v2, z1, z2⟩
          · have e := List.mem_singleton.mp z1
            obtain ⟨_, e2⟩ := ky_inj (congrArg Prod.fst e)
            subst e2
            refine .inr ⟨(ls b).length, ?_, List.prefix_iff_eq_take.mp z2⟩
            have := z2.length_le
            rw [str_len]
            exact Nat.lt_succ_of_le this
    · rintro σ Hi ⟨o2, o3, o4, ks, bs, rfl, s1, hLi, hk, hbl, hm⟩
      have s2 : Same H (upd Hi d (.dT kvs)) := same_unlock hd s1
      have hLu : upd Hi d (.dT kvs) L = some (.dK ks) := by rw [upd_ne (Ne.symm ndL)]; exact hLi
      refine ⟨s1 _ _ hfz, _, rfl, L, bs, rfl, ⟨ks, hLu, hk.1⟩, fun b hb => ?_, fun H' a kp na ha => ?_⟩
      · obtain ⟨fr, old, v, z1, z2⟩ := (hm b).mp hb
        have h1 := hlen fr old v (List.mem_of_mem_take z1)
        have h2 : b.cps.toList.length ≤ old.cps.toList.length := z2.length_le
        rw [str_len] at h1 ⊢
        rw [sz]
        omega
      · refine k H' a bs (fun c u e => kp c u (s2 c u e)) (s2.none na) ha hk.2 (fun b => ?_) (by omega)
        rw [hm b, List.take_length]
        exact idx_asked ix b
end
end K23
namespace K23
open PySem PySem.Spec PyProof.Rows L2 FL
abbrev sThrough : Stmt := topS 35
abbrev sEven : Stmt := topS 38
def spThrough (K : PySem.W.Frag) : Sp := fun vs H Q _ => ∃ (L : Addr) (y : Str) (rss : List (List Rule)), vs = [.ref L, .str y] ∧ Idxs K H L rss ∧ y.length ≤ 10000 ∧
  ∀ H', Same H H' → Q (.str (thr rss y)) H'
theorem thr_take {rss : List (List Rule)} {i : Nat} {rs : List Rule} {y : Str} (h : rss[i]? = some rs) : thr (rss.take (i + 1)) y = turn rs (thr (rss.take i) y) := by
  unfold thr
  rw [take_snoc h, List.foldl_append]
  rfl
section
variable {P : Program} {w : World} {K : PySem.W.Frag} {mg : Str → Option Value} {base : Heap}
abbrev nThrough : List Str := ["indexes", "line", "found", "index"]
theorem scThrough : FnScope nThrough ["indexes", "line"] (defScope sThrough) :=
  ⟨rfl, rfl, rfl, by decide +kernel, rfl, by decide +kernel, by decide +kernel⟩
theorem ok_through {f : Addr} {fd : FuncData} (F : Fun K "turned_through" "turned_through" sThrough f fd) (cO : Ca P w K mg base "turned_once" 1 ["index", "line"] spOnce) :
    FnOk P w K mg base CX0 2 f fd ["indexes", "line"] (spThrough K) := by
  refine F.ok scThrough (fun vs H Q E h => ?_) (fun cdv A outer s H vs Q E hr h => ?_)
  · obtain ⟨L, y, rss, rfl, _⟩ := h
    rfl
  · obtain ⟨L, y, rss, rfl, ⟨⟨ds, hL, hp⟩, few, rb⟩, ly, k⟩ := h
    have nd := scThrough.nd
    refine ⟨_, pss_cons (ps_set (i := 2) nd rfl (.inl rfl) (pv 1))
      (pss_cons (ps_for PassesOwn.never rfl (pi_list (pv 0)) (pg_name (i := 3) nd rfl (.inl rfl))
        (pss_one (ps_set (i := 2) nd rfl (.inl rfl) (pe_ca cO hr (by rfl) (pa_cons (pv 3) (pa_cons (pv 2) pa_nil))))))
      (pss_one (ps_ret (pv 2)))), ?_⟩
    have hlen : ds.length = rss.length := paired_len hp
    refine ⟨_, rfl, _, rfl, L, rfl, ⟨_, hL⟩, for_list (xs := ds.map V.ref) (fun j σ Hj => ∃ (o3 : Option V), σ = [some (.ref L), some (.str y), some (.str (thr (rss.take j) y)), o3] ∧ Same H Hj) ?_ ?_ ?_ ?_⟩
    · exact ⟨none, rfl, Same.refl H⟩
    · rintro j σ Hj _ ⟨_, rfl, sj⟩
      exact sj.sqL hL
    · rintro j x σ Hj hx ⟨o3, rfl, sj⟩
      rw [List.getElem?_map] at hx
      cases hd : ds[j]? with
      | none =>
        rw [hd] at hx
        cases hx
      | some d =>
        rw [hd] at hx
        obtain rfl : V.ref d = x := Option.some.inj hx
        obtain ⟨rs, hrs, ix⟩ := L2.paired_get hp hd
        have rb1 := rb rs (List.mem_of_getElem? hrs)
        have hl : (thr (rss.take j) y).length ≤ y.length + (rss.take j).length * 1000 := thr_len fun rs' h' r hr' => (rb rs' (List.mem_of_mem_take h') r hr').2
        have hj2 : (rss.take j).length ≤ 2 := by rw [List.length_take]; omega
        refine ⟨_, rfl, _, rfl, d, thr (rss.take j) y, rs, rfl, ix.same sj, by omega, rb1, fun H' s' => ?_⟩
        refine ⟨_, by rw [thr_take hrs]; rfl, sj.trans s'⟩
    · rintro σ Hj ⟨o3, rfl, sj⟩
      have e : thr (rss.take (ds.map V.ref).length) y = thr rss y := by rw [List.take_of_length_le (by rw [List.length_map]; omega)]
      rw [e]
      exact ⟨_, rfl, k Hj sj⟩
end
end K23
namespace K23
open PySem PySem.Spec PyProof.Rows L2 FL
def sg (c : Nat) : Str := ⟨#[c]⟩
def TxtD (H : Hp) (U : Addr) (bs : List Str) : Prop := ∃ kvs, H U = some (.dK kvs) ∧ KeysOf kvs bs
/-- what is_even_by_signs looks at behind one sign -/
def okSign (rss : List (List Rule)) (y : Str) (bs : List Str) (c : Nat) : Bool := decide (y ++ sg c ∉ bs) && decide (thr rss (y ++ sg c) = thr rss y ++ sg c)
def evenB (z : Str) (rss : List (List Rule)) (y : Str) (bs : List Str) : Bool := z.cps.toList.all (okSign rss y bs)
def spEven (K : PySem.W.Frag) : Sp := fun vs H Q _ => ∃ (z : Str) (L : Addr) (y : Str) (U : Addr) (rss : List (List Rule)) (bs : List Str), vs = [.str z, .ref L, .str y, .ref U] ∧ Idxs K H L rss ∧ TxtD H U bs
  ∧ y.length ≤ 1000 ∧ z.length ≤ 4 ∧ ∀ H', Same H H' → Q (.bl (evenB z rss y bs)) H'
theorem _root_.FL.Idxs.same {K : PySem.W.Frag} {H H' : Hp} {L : Addr} {rss : List (List Rule)} (h : Idxs K H L rss) (s : Same H H') : Idxs K H' L rss := by
  obtain ⟨⟨ds, h1, h2⟩, h3, h4⟩ := h
  exact ⟨⟨ds, s.sqL h1, paired_map h2 fun _ _ q => q.same s⟩, h3, h4⟩
theorem TxtD.same {H H' : Hp} {U : Addr} {bs : List Str} (h : TxtD H U bs) (s : Same H H') : TxtD H' U bs := by
  obtain ⟨kvs, h1, h2⟩ := h
  exact ⟨kvs, s _ _ h1, h2⟩
theorem val_some {kvs : List (Key × V)} {bs : List Str} (h : KeysOf kvs bs) (b : Str) : (valV kvs (Sum.inr b : Key)).isSome = decide (b ∈ bs) := by
  by_cases q : b ∈ bs
  · rw [decide_eq_true q]
    have := h.val.mpr q
    cases e : valV kvs (Sum.inr b : Key) with
    | none => exact absurd e this
    | some v => rfl
  · rw [decide_eq_false q]
    cases e : valV kvs (Sum.inr b : Key) with
    | none => rfl
    | some v => exact absurd (h.val.mp (by rw [e]; exact fun z => nomatch z)) q
section
variable {P : Program} {w : World} {K : PySem.W.Frag} {mg : Str → Option Value} {base : Heap}
abbrev nEven : List Str := ["signs", "indexes", "line", "uneven", "found", "sign"]
theorem scEven : FnScope nEven ["signs", "indexes", "line", "uneven"] (defScope sEven) :=
  ⟨rfl, rfl, rfl, by decide +kernel, rfl, by decide +kernel, by decide +kernel⟩
theorem ok_even {f : Addr} {fd : FuncData} (F : Fun K "is_even_by_signs" "is_even_by_signs" sEven f fd) (cT : Ca P w K mg base "turned_through" 2 ["indexes", "line"] (spThrough K)) :
    FnOk P w K mg base CX0 3 f fd ["signs", "indexes", "line", "uneven"] (spEven K) := by
  refine F.ok scEven (fun vs H Q E h => ?_) (fun cdv A outer s H vs Q E hr h => ?_)
  · obtain ⟨z, L, y, U, rss, bs, rfl, _⟩ := h
    rfl
  · obtain ⟨z, L, y, U, rss, bs, rfl, hI, hU, ly, lz, k⟩ := h
    have nd := scEven.nd
    have hu := hu_of hr
    have sz : sizeLine = 16777216 := rfl
    refine ⟨_, pss_cons (ps_set (i := 4) nd rfl (.inl rfl) (pe_ca cT hr (by rfl) (pa_cons (pv 1) (pa_cons (pv 2) pa_nil))))
      (pss_cons (ps_for PassesOwn.never rfl (pi_str (pv 0)) (pg_name (i := 5) nd rfl (.inl rfl))
        (pss_one (ps_if (PW.pt (pw_or (pt_cmp (pc_din hu (pe_op op_add_str (pv 2) (pv 5)) (pv 3)))
          (pw_or1 (pt_cmpR op_ne (pe_ca cT hr (by rfl) (pa_cons (pv 1) (pa_cons (pe_op op_add_str (pv 2) (pv 5)) pa_nil))) (pe_op op_add_str (pv 4) (pv 5)) (nomark _)))))
          (pss_one (ps_ret pe_bl)) pss_nil)))
      (pss_one (ps_ret pe_bl))), ?_⟩
    refine ⟨_, rfl, _, rfl, L, y, rss, rfl, hI, by omega, fun H1 s1 => ?_⟩
    refine ⟨_, rfl, _, rfl, for_it walk_str (fun j σ Hj => ∃ (o5 : Option V), σ = [some (.str z), some (.ref L), some (.str y), some (.ref U), some (.str (thr rss y)), o5]
      ∧ Same H Hj ∧ (z.cps.toList.take j).all (okSign rss y bs) = true) ?_ ?_ ?_ ?_⟩
    · exact ⟨none, rfl, s1, by rw [List.take_zero]; rfl⟩
    · intros; trivial
    · rintro i x σ Hi H' hi ⟨o5, rfl, si, hall⟩ ⟨rfl, c, hc, rfl⟩
      obtain ⟨kvs, hUk, hk⟩ := hU.same si
      have hc1 : (sg c).length = 1 := rfl
      have hcl : z.cps.toList[i]? = some c := by rw [Array.getElem?_toList]; exact hc
      have etk : z.cps.toList.take (i + 1) = z.cps.toList.take i ++ [c] := take_snoc hcl
      have bad : okSign rss y bs c = false → evenB z rss y bs = false := fun e => by
        unfold evenB
        rw [Bool.eq_false_iff]
        intro q
        have := List.all_eq_true.mp q c (List.mem_of_getElem? hcl)
        rw [e] at this
        cases this
      have tl : (thr rss y).length ≤ y.length + rss.length * 1000 := thr_len fun rs h r hr' => (hI.rb rs h r hr').2
      have fw := hI.few
      refine ⟨_, rfl, _, rfl, y, sg c, rfl, rfl, (by rw [sz]; omega), _, rfl, U, _, rfl, DGet.k (k := Sum.inr (y ++ sg c)) hUk, _, rfl, ?_⟩
      rw [val_some hk]
      by_cases hb : y ++ sg c ∈ bs
      · rw [decide_eq_true hb]
        refine iteT ?_
        refine iteT ?_
        have e : evenB z rss y bs = false := bad (by unfold okSign; rw [decide_eq_false (by simpa using hb)]; rfl)
        rw [← e]
        exact k _ si
      · rw [decide_eq_false hb]
        refine iteF ?_
        refine ⟨_, rfl, _, rfl, _, rfl, y, sg c, rfl, rfl, (by rw [sz]; omega), L, y ++ sg c, rss, rfl, hI.same si, (by rw [len_app]; omega), fun H2 s2 => ?_⟩
        refine ⟨_, rfl, _, rfl, thr rss y, sg c, rfl, rfl, (by rw [sz]; omega), rfl, _, rfl, ?_⟩
        have si2 := si.trans s2
        by_cases he : thr rss (y ++ sg c) = thr rss y ++ sg c
        · rw [decide_eq_true (congrArg V.str he)]
          refine iteF ?_
          refine ⟨_, rfl, si2, ?_⟩
          rw [etk, List.all_append, hall]
          show ([c].all (okSign rss y bs)) = true
          rw [List.all_cons]
          unfold okSign
          rw [decide_eq_true (by simpa using hb), decide_eq_true he]
          rfl
        · rw [decide_eq_false (strV_ne he)]
          refine iteT ?_
          have e : evenB z rss y bs = false := bad (by unfold okSign; rw [decide_eq_false he, Bool.and_false])
          rw [← e]
          exact k _ si2
    · rintro σ Hj ⟨o5, rfl, si, hall⟩
      have e : evenB z rss y bs = true := by
        unfold evenB
        rw [← hall]
        rw [List.take_of_length_le (by rw [Array.length_toList]; exact Nat.le_refl _)]
      have := k Hj si
      rw [e] at this
      exact this
end
end K23
namespace K23
open PySem PySem.Spec PyProof.Rows L2 FL
abbrev sUneven : Stmt := topS 37
def unevenL (z : Str) (rss : List (List Rule)) (ys ns : List Str) : List Str := ys.reverse.foldl (fun us y => if evenB z rss y us then us else addB us y) ns
def stepU (z : Str) (rss : List (List Rule)) (us : List Str) (y : Str) : List Str := if evenB z rss y us then us else addB us y
theorem stepU_len (z : Str) (rss : List (List Rule)) (us : List Str) (y : Str) : (stepU z rss us y).length ≤ us.length + 1 := by
  unfold stepU
  split
  · omega
  · exact addB_len _ _
def spUneven (K : PySem.W.Frag) : Sp := fun vs H Q _ => ∃ (z : Str) (L B N : Addr) (rss : List (List Rule)) (ys ns : List Str), vs = [.str z, .ref L, .ref B, .ref N] ∧ Idxs K H L rss ∧ SqL K H B (ys.map V.str) ∧ TxtD H N ns
  ∧ (∀ y ∈ ys, y.length ≤ 1000) ∧ z.length ≤ 4 ∧ ys.length ≤ 1000000 ∧ ns.length ≤ 1000000 ∧ ∀ H' U, Same H H' → H U = none → TxtD H' U (unevenL z rss ys ns) → Q (.ref U) H'
section
variable {P : Program} {w : World} {K : PySem.W.Frag} {mg : Str → Option Value} {base : Heap}
abbrev nUneven : List Str := ["signs", "indexes", "lines", "known", "uneven", "line"]
theorem scUneven : FnScope nUneven ["signs", "indexes", "lines", "known"] (defScope sUneven) :=
  ⟨rfl, rfl, rfl, by decide +kernel, rfl, by decide +kernel, by decide +kernel⟩
theorem ok_uneven {f : Addr} {fd : FuncData} (F : Fun K "uneven_lines" "uneven_lines" sUneven f fd) (mD : mg "dict" = none) (cE : Ca P w K mg base "is_even_by_signs" 3 ["signs", "indexes", "line", "uneven"] (spEven K)) :
    FnOk P w K mg base CX0 4 f fd ["signs", "indexes", "lines", "known"] (spUneven K) := by
  refine F.ok scUneven (fun vs H Q E h => ?_) (fun cdv A outer s H vs Q E hr h => ?_)
  · obtain ⟨z, L, B, N, rss, ys, ns, rfl, _⟩ := h
    rfl
  · obtain ⟨z, L, B, N, rss, ys, ns, rfl, hI, hB, ⟨kvs0, hN, hk0⟩, ly, lz, lys, lns, k⟩ := h
    have nd := scUneven.nd
    have hu := hu_of hr
    have sz : sizeLine = 16777216 := rfl
    refine ⟨_, pss_cons (ps_set (i := 4) nd rfl (.inl rfl) (pe_callTy call_dictD (by rfl) mD (by decide +kernel) (pa_cons (pv 3) pa_nil)))
      (pss_cons (ps_for PassesOwn.never rfl (pi_list (pe_revL (pv 2))) (pg_name (i := 5) nd rfl (.inl rfl))
        (pss_one (ps_if (pt_not (pt_val (pe_ca cE hr (by rfl) (pa_cons (pv 0) (pa_cons (pv 1) (pa_cons (pv 5) (pa_cons (pv 4) pa_nil)))))))
          (pss_one (ps_dput hu (pv 4) (pv 5) pe_bl rfl)) pss_nil)))
      (pss_one (ps_ret (pv 4)))), ?_⟩
    refine ⟨_, rfl, N, kvs0, rfl, .inl hN, fun U hU => ?_⟩
    have s0 : Same H (upd H U (.dK kvs0)) := (Same.refl H).upd hU
    refine ⟨_, rfl, B, _, rfl, s0.sqL hB, fun R hR => ?_⟩
    have h0R : H R = none := s0.none hR
    have nUR : U ≠ R := fun e => by
      rw [← e, upd_same] at hR
      cases hR
    have s1 : Same H (upd (upd H U (.dK kvs0)) R (.lst (ys.map V.str).reverse)) := s0.upd h0R
    have eR : (ys.map V.str).reverse = ys.reverse.map V.str := by rw [List.map_reverse]
    refine ⟨R, rfl, ⟨_, SqL.of upd_same⟩, ?_⟩
    rw [eR]
    refine for_list (xs := ys.reverse.map V.str) (fun j σ Hj => ∃ (o5 : Option V) (kvs : List (Key × V)) (us : List Str), σ = [some (.str z), some (.ref L), some (.ref B), some (.ref N), some (.ref U), o5]
      ∧ Same H Hj ∧ Hj R = some (.lst (ys.reverse.map V.str)) ∧ Hj U = some (.dK kvs) ∧ KeysOf kvs us ∧ us = (ys.reverse.take j).foldl (stepU z rss) ns ∧ us.length ≤ ns.length + j) ?_ ?_ ?_ ?_
    · exact ⟨none, kvs0, ns, rfl, by rw [eR] at s1; exact s1, upd_same, by rw [upd_ne nUR, upd_same], hk0, rfl, Nat.le_refl _⟩
    · rintro j σ Hj _ ⟨_, _, _, _, _, h, _⟩
      exact SqL.of h
    · rintro j x σ Hj hx ⟨o5, kvs, us, rfl, sj, hRj, hUj, hk, eu, lu⟩
      rw [List.getElem?_map] at hx
      cases hy : ys.reverse[j]? with
      | none =>
        rw [hy] at hx
        cases hx
      | some y =>
        rw [hy] at hx
        obtain rfl : V.str y = x := Option.some.inj hx
        have hym : y ∈ ys := List.mem_reverse.mp (List.mem_of_getElem? hy)
        have hj : j < ys.length := by have := (List.getElem?_eq_some_iff.mp hy).1; rw [List.length_reverse] at this; exact this
        have etk : ys.reverse.take (j + 1) = ys.reverse.take j ++ [y] := take_snoc hy
        have es : (ys.reverse.take (j + 1)).foldl (stepU z rss) ns = stepU z rss us y := by rw [etk, List.foldl_append, ← eu]; rfl
        refine ⟨_, rfl, _, rfl, _, rfl, _, rfl, z, L, y, U, rss, us, rfl, hI.same sj, ⟨kvs, hUj, hk⟩, ly y hym, lz, fun H2 s2 => ?_⟩
        refine ⟨_, rfl, ?_⟩
        have hR2 := s2 _ _ hRj
        have hU2 := s2 _ _ hUj
        have sj2 := sj.trans s2
        cases ev : evenB z rss y us with
        | true =>
          refine iteF ?_
          refine ⟨_, kvs, us, rfl, sj2, hR2, hU2, hk, ?_, by omega⟩
          rw [es]
          unfold stepU
          rw [ev]
          rfl
        | false =>
          refine iteT ?_
          refine ⟨_, rfl, _, rfl, U, _, rfl, DPut.k (k := Sum.inr y) hU2 (by rw [hk.len, sz]; omega), ?_⟩
          refine ⟨_, _, _, rfl, sj2.upd hU, by rw [upd_ne (Ne.symm nUR)]; exact hR2, upd_same, hk.put _ _, ?_, Nat.le_trans (addB_len _ _) (by omega)⟩
          rw [es]
          unfold stepU
          rw [ev]
          rfl
    · rintro σ Hj ⟨o5, kvs, us, rfl, sj, hRj, hUj, hk, eu, lu⟩
      refine ⟨_, rfl, k Hj U sj hU ⟨kvs, hUj, ?_⟩⟩
      have e : us = unevenL z rss ys ns := by
        rw [eu, List.take_of_length_le (by rw [List.length_map]; exact Nat.le_refl _)]
        rfl
      rw [← e]
      exact hk
end
end K23
namespace K23
open PySem PySem.Spec PyProof.Rows L2 FL
theorem ls_sg (y : Str) (c : Nat) : ls (y ++ sg c) = ls y ++ [c] := by
  rw [ls_app]
  rfl
theorem evenB_iff {z y : Str} {rs : List Rule} {us : List Str} : evenB z [rs] y us = true ↔ ∀ c ∈ ls z, y ++ sg c ∉ us ∧ tL rs (ls y ++ [c]) = tL rs (ls y) ++ [c] := by
  unfold evenB
  rw [List.all_eq_true]
  have key : ∀ c, okSign [rs] y us c = true ↔ (y ++ sg c ∉ us ∧ tL rs (ls y ++ [c]) = tL rs (ls y) ++ [c]) := fun c => by
    unfold okSign
    rw [Bool.and_eq_true, decide_eq_true_eq, decide_eq_true_eq]
    have e : (thr [rs] (y ++ sg c) = thr [rs] y ++ sg c) ↔ tL rs (ls y ++ [c]) = tL rs (ls y) ++ [c] := by
      have e1 : ls (thr [rs] (y ++ sg c)) = tL rs (ls y ++ [c]) := by
        show ls (turn rs (y ++ sg c)) = _
        rw [FL.turn_list, ls_sg]
      have e2 : ls (thr [rs] y ++ sg c) = tL rs (ls y) ++ [c] := by
        rw [ls_sg]
        show ls (turn rs y) ++ [c] = _
        rw [FL.turn_list]
      constructor
      · intro h
        rw [← e1, ← e2, h]
      · intro h
        apply ls_inj
        rw [e1, e2, h]
    rw [e]
  exact ⟨fun h c hc => (key c).mp (h c hc), fun h c hc => (key c).mpr (h c hc)⟩
theorem not_asked {rs : List Rule} {z : Lns} {u : Str} (h : ¬ Asked rs u) : Evn z (tL rs) (ls u) := fun s _ => tL_app fun r hr hp => h ⟨r, hr, hp⟩
structure UnOk (z : Str) (rs : List Rule) (us : List Str) : Prop where
  nd : us.Nodup
  mem : ∀ u, u ∈ us ↔ ¬ Evn (ls z) (tL rs) (ls u)
theorem uneven_mem {z : Str} {rs : List Rule} {bs : List Str} (hm : ∀ b, b ∈ bs ↔ Asked rs b) : UnOk z rs (unevenL z [rs] (ordL bs) []) ∧ (unevenL z [rs] (ordL bs) []).length ≤ bs.length := by
  have hR : ∀ b, b ∈ (ordL bs).reverse ↔ Asked rs b := fun b => by rw [List.mem_reverse, mem_ordL, hm]
  have hs : (ordL bs).reverse.Pairwise fun a b => lineLe b a = true := List.pairwise_reverse.mpr (ordL_sorted bs)
  have hl : (ordL bs).reverse.length = bs.length := by rw [List.length_reverse, ordL_len]
  have e0 : unevenL z [rs] (ordL bs) [] = (ordL bs).reverse.foldl (stepU z [rs]) [] := rfl
  rw [e0, ← hl]
  generalize (ordL bs).reverse = R at hR hs
  have main : ∀ n, n ≤ R.length → ((R.take n).foldl (stepU z [rs]) []).Nodup ∧ ((R.take n).foldl (stepU z [rs]) []).length ≤ n ∧ ∀ u, u ∈ (R.take n).foldl (stepU z [rs]) [] ↔ u ∈ R.take n ∧ ¬ Evn (ls z) (tL rs) (ls u) := by
    intro n
    induction n with
    | zero =>
      intro _
      rw [List.take_zero]
      exact ⟨List.nodup_nil, Nat.le_refl _, fun u => ⟨fun h => (nomatch h), fun h => (nomatch h.1)⟩⟩
    | succ n ih =>
      intro hn
      obtain ⟨i1, i2, i3⟩ := ih (by omega)
      have hg : R[n]? = some R[n] := List.getElem?_eq_getElem (by omega)
      have ht : R.take (n + 1) = R.take n ++ [R[n]] := take_snoc hg
      rw [ht, List.foldl_append]
      generalize (R.take n).foldl (stepU z [rs]) [] = us at i1 i2 i3
      show (stepU z [rs] us R[n]).Nodup ∧ (stepU z [rs] us R[n]).length ≤ n + 1 ∧ ∀ u, u ∈ stepU z [rs] us R[n] ↔ _
      have ev : evenB z [rs] R[n] us = true ↔ Evn (ls z) (tL rs) (ls R[n]) := by
        rw [evenB_iff, evn_step]
        refine ⟨fun h c hc => ⟨?_, (h c hc).2⟩, fun h c hc => ⟨fun q => ?_, (h c hc).2⟩⟩
        · refine Classical.byContradiction fun q => (h c hc).1 ?_
          have q' : ¬ Evn (ls z) (tL rs) (ls (R[n] ++ sg c)) := by rw [ls_sg]; exact q
          refine (i3 _).mpr ⟨?_, q'⟩
          have ha : R[n] ++ sg c ∈ R := (hR _).mpr (Classical.byContradiction fun na => q' (not_asked na))
          obtain ⟨m, hml, hme⟩ := List.mem_iff_getElem.mp ha
          have lenc : (R[n] ++ sg c).length = R[n].length + 1 := by rw [len_app]; rfl
          by_cases h1 : m < n
          · exact List.mem_take_iff_getElem.mpr ⟨m, by omega, hme⟩
          · by_cases h2 : m = n
            · subst h2
              have := congrArg Str.length hme
              rw [lenc] at this
              omega
            · have := lineLe_len (List.pairwise_iff_getElem.mp hs n m (by omega) hml (by omega))
              rw [hme, lenc] at this
              omega
        · have := (i3 _).mp q
          rw [ls_sg] at this
          exact this.2 (h c hc).1
      cases e : evenB z [rs] R[n] us with
      | true =>
        have hv := ev.mp e
        have es : stepU z [rs] us R[n] = us := by unfold stepU; rw [e]; rfl
        rw [es]
        refine ⟨i1, by omega, fun u => ?_⟩
        rw [i3 u, List.mem_append, List.mem_singleton]
        exact ⟨fun h => ⟨.inl h.1, h.2⟩, fun h => ⟨h.1.elim id fun q => absurd (by rw [q]; exact hv) h.2, h.2⟩⟩
      | false =>
        have hv : ¬ Evn (ls z) (tL rs) (ls R[n]) := fun q => by rw [ev.mpr q] at e; cases e
        have es : stepU z [rs] us R[n] = addB us R[n] := by unfold stepU; rw [e]; rfl
        rw [es]
        refine ⟨addB_nodup i1, Nat.le_trans (addB_len _ _) (by omega), fun u => ?_⟩
        rw [mem_addB, i3 u, List.mem_append, List.mem_singleton]
        refine ⟨fun h => h.elim (fun h => ⟨.inl h.1, h.2⟩) fun q => ⟨.inr q, by rw [q]; exact hv⟩, fun h => h.1.elim (fun q => .inl ⟨q, h.2⟩) .inr⟩
  obtain ⟨j1, j2, j3⟩ := main R.length (Nat.le_refl _)
  rw [List.take_length] at j1 j2 j3
  refine ⟨⟨j1, fun u => ?_⟩, j2⟩
  rw [j3 u, hR u]
  exact ⟨fun h => h.2, fun h => ⟨Classical.byContradiction fun na => h (not_asked na), h⟩⟩
end K23
namespace K23
open PySem PySem.Spec PyProof.Rows L2 FL
abbrev sUnevenOf : Stmt := topS 39
abbrev sCheckCells : Stmt := topS 40
abbrev sCells : Stmt := topS 41
abbrev sTable : Stmt := topS 999
abbrev sLimited : Stmt := topS 43
structure RsOk (rs : List Rule) : Prop where
  few : rs.length ≤ 10000
  olds : ∀ r ∈ rs, r.old.length ≤ 40
  news : ∀ r ∈ rs, r.new.length ≤ 1000
def spUnevenOf : Sp := fun vs H Q _ => ∃ (z : Str) (d : Addr) (rs : List Rule), vs = [.str z, .ref d] ∧ IdxAt H d rs ∧ RsOk rs ∧ z.length ≤ 4 ∧
  ∀ H' U us, Same H H' → H U = none → TxtD H' U us → UnOk z rs us → us.length ≤ 410000 → Q (.ref U) H'
theorem idxs_one {K : PySem.W.Frag} {H : Hp} {L d : Addr} {rs : List Rule} (hL : H L = some (.lst [.ref d])) (h : IdxAt H d rs) (ok : RsOk rs) : Idxs K H L [rs] :=
  ⟨⟨[d], SqL.of hL, .cons h .nil⟩, by show 1 ≤ 2; decide, fun rs' h' r hr => by
    rw [List.mem_singleton.mp h'] at hr
    exact ⟨ok.olds r hr, ok.news r hr⟩⟩
theorem asked_len {rs : List Rule} (ok : RsOk rs) {b : Str} (h : Asked rs b) : b.length ≤ 40 := by
  obtain ⟨r, hr, hp⟩ := h
  have h1 : b.cps.toList.length ≤ r.old.cps.toList.length := hp.length_le
  have h2 := ok.olds r hr
  rw [str_len] at h2 ⊢
  omega
section
variable {P : Program} {w : World} {K : PySem.W.Frag} {mg : Str → Option Value} {base : Heap}
theorem scUnevenOf : FnScope ["signs", "index"] ["signs", "index"] (defScope sUnevenOf) :=
  ⟨rfl, rfl, rfl, by decide +kernel, rfl, by decide +kernel, by decide +kernel⟩
theorem ok_unevenOf {f : Addr} {fd : FuncData} (F : Fun K "uneven_of" "uneven_of" sUnevenOf f fd) (cU : Ca P w K mg base "uneven_lines" 4 ["signs", "indexes", "lines", "known"] (spUneven K)) (cB : Ca P w K mg base "beginnings" 5 ["index"] spBegin) :
    FnOk P w K mg base CX0 6 f fd ["signs", "index"] spUnevenOf := by
  refine F.ok scUnevenOf (fun vs H Q E h => ?_) (fun cdv A outer s H vs Q E hr h => ?_)
  · obtain ⟨z, d, rs, rfl, _⟩ := h
    rfl
  · obtain ⟨z, d, rs, rfl, ix, ok, lz, k⟩ := h
    refine ⟨_, pss_one (ps_ret (pe_ca cU (hr.mono (by decide)) (by rfl) (pa_cons (pv 0) (pa_cons (pe_lst (pa_cons (pv 1) pa_nil)) (pa_cons (pe_ca cB hr (by rfl) (pa_cons (pv 1) pa_nil)) (pa_cons pe_dnewK pa_nil)))))), ?_⟩
    refine ⟨_, rfl, _, rfl, (by show 1 ≤ sizeLine; decide), fun L hL => ?_⟩
    have s1 : Same H (upd H L (.lst [.ref d])) := (Same.refl H).upd hL
    refine ⟨_, rfl, d, rs, rfl, ix.same s1, ok.few, ok.olds, fun H2 B bs s2 nB hB hnd hmem hlen => ?_⟩
    intro N hN
    have s12 := s1.trans s2
    have s3 : Same H2 (upd H2 N (.dK [])) := (Same.refl H2).upd hN
    have s13 := s12.trans s3
    have hL3 : upd H2 N (.dK []) L = some (.lst [.ref d]) := s3 _ _ (s2 _ _ upd_same)
    refine ⟨z, L, B, N, [rs], ordL bs, [], rfl, idxs_one hL3 (ix.same s13) ok, SqL.of (s3 _ _ hB), ⟨[], upd_same, rfl, List.nodup_nil⟩, fun y hy => ?_, lz, by rw [ordL_len]; omega, Nat.zero_le _, fun H' U s' nU hU => ?_⟩
    · have := asked_len ok ((hmem y).mp (mem_ordL.mp hy))
      omega
    · obtain ⟨q1, q2⟩ := uneven_mem (z := z) hmem
      exact k H' U _ (s13.trans s') (s13.none nU) hU q1 (Nat.le_trans q2 hlen)
end
end K23
namespace K23
open PySem PySem.Spec PyProof.Rows L2 FL
/-- the keys of kinds: behind the first loop, behind both -/
def behind (z : Str) (ks : List Str) (u : Str) : List Str := z.cps.toList.foldl (fun ks c => addB ks (u ++ sg c)) ks
def keys1 (z : Str) (us : List Str) : List Str := us.foldl (behind z) [Str.ofString ""]
def keys2 (z : Str) (us : List Str) : List Str := us.foldl addB (keys1 z us)
def cellsL (z : Str) (rss : List (List Rule)) (us : List Str) : List Rule := (ordL (keys2 z us)).map fun l => ⟨decide (l ∉ us), l, thr rss l⟩
/-- the dict kinds: the lines wh are of the kind "whole" -/
def Kn (H : Hp) (D : Addr) (ks wh : List Str) : Prop := ∃ kvs, H D = some (.dK kvs) ∧ KeysOf kvs ks ∧ ∀ l ∈ ks, valV kvs (Sum.inr l : Key) = some (.str (kd (decide (l ∉ wh))))
theorem Kn.same {H H' : Hp} {D : Addr} {ks wh : List Str} (h : Kn H D ks wh) (s : Same H H') : Kn H' D ks wh := by
  obtain ⟨kvs, h1, h2⟩ := h
  exact ⟨kvs, s _ _ h1, h2⟩
theorem kn_put1 {kvs : List (Key × V)} {ks : List Str} (hk : KeysOf kvs ks) (hv : ∀ l ∈ ks, valV kvs (Sum.inr l : Key) = some (.str (kd (decide (l ∉ ([] : List Str)))))) (b : Str) :
    ∀ l ∈ addB ks b, valV (putK kvs (Sum.inr b : Key) (.str (Str.ofString "front"))) (Sum.inr l : Key) = some (.str (kd (decide (l ∉ ([] : List Str))))) := fun l hl => by
  rw [L2.valV_put]
  by_cases e : (Sum.inr l : Key) = Sum.inr b
  · rw [if_pos e, decide_eq_true (by simp)]
    rfl
  · rw [if_neg e]
    rcases mem_addB.mp hl with q | q
    · exact hv l q
    · exact absurd (congrArg Sum.inr q) e
theorem kn_put2 {kvs : List (Key × V)} {ks wh : List Str} (hk : KeysOf kvs ks) (hv : ∀ l ∈ ks, valV kvs (Sum.inr l : Key) = some (.str (kd (decide (l ∉ wh))))) (b : Str) :
    ∀ l ∈ addB ks b, valV (putK kvs (Sum.inr b : Key) (.str (Str.ofString "whole"))) (Sum.inr l : Key) = some (.str (kd (decide (l ∉ wh ++ [b])))) := fun l hl => by
  rw [L2.valV_put]
  by_cases e : (Sum.inr l : Key) = Sum.inr b
  · rw [if_pos e, decide_eq_false (by rw [Sum.inr.inj e]; simp)]
    rfl
  · rw [if_neg e]
    have ne : l ≠ b := fun q => e (congrArg Sum.inr q)
    rcases mem_addB.mp hl with q | q
    · rw [hv l q]
      have : (l ∉ wh) ↔ (l ∉ wh ++ [b]) := by
        rw [List.mem_append, List.mem_singleton]
        exact ⟨fun h q => q.elim h ne, fun h q => h (.inl q)⟩
      rw [decide_eq_decide.mpr this]
    · exact absurd q ne
theorem mem_behind_ {u l : Str} : ∀ {cs : List Nat} {ks : List Str}, l ∈ cs.foldl (fun ks c => addB ks (u ++ sg c)) ks ↔ l ∈ ks ∨ ∃ c ∈ cs, l = u ++ sg c
  | [], ks => ⟨.inl, fun h => h.elim id fun ⟨_, h, _⟩ => (nomatch h)⟩
  | c :: cs, ks => by
    rw [List.foldl_cons, mem_behind_, mem_addB]
    constructor
    · rintro ((h | h) | ⟨d, hd, h⟩)
      · exact .inl h
      · exact .inr ⟨c, List.mem_cons_self, h⟩
      · exact .inr ⟨d, List.mem_cons_of_mem _ hd, h⟩
    · rintro (h | ⟨d, hd, h⟩)
      · exact .inl (.inl h)
      · rcases List.mem_cons.mp hd with rfl | hd
        · exact .inl (.inr h)
        · exact .inr ⟨d, hd, h⟩
theorem nd_behind_ {u : Str} : ∀ {cs : List Nat} {ks : List Str}, ks.Nodup → (cs.foldl (fun ks c => addB ks (u ++ sg c)) ks).Nodup
  | [], _, h => h
  | c :: cs, ks, h => nd_behind_ (cs := cs) (ks := addB ks (u ++ sg c)) (addB_nodup h)
theorem mem_keys1_ {z l : Str} : ∀ {us ks : List Str}, l ∈ us.foldl (behind z) ks ↔ l ∈ ks ∨ ∃ u ∈ us, ∃ c ∈ ls z, l = u ++ sg c
  | [], ks => ⟨.inl, fun h => h.elim id fun ⟨_, h, _⟩ => (nomatch h)⟩
  | u :: us, ks => by
    rw [List.foldl_cons, mem_keys1_]
    have e : l ∈ behind z ks u ↔ l ∈ ks ∨ ∃ c ∈ ls z, l = u ++ sg c := mem_behind_
    rw [e]
    constructor
    · rintro ((h | h) | ⟨d, hd, h⟩)
      · exact .inl h
      · exact .inr ⟨u, List.mem_cons_self, h⟩
      · exact .inr ⟨d, List.mem_cons_of_mem _ hd, h⟩
    · rintro (h | ⟨d, hd, h⟩)
      · exact .inl (.inl h)
      · rcases List.mem_cons.mp hd with rfl | hd
        · exact .inl (.inr h)
        · exact .inr ⟨d, hd, h⟩
theorem nd_keys1_ {z : Str} : ∀ {us ks : List Str}, ks.Nodup → (us.foldl (behind z) ks).Nodup
  | [], _, h => h
  | u :: us, ks, h => nd_keys1_ (us := us) (ks := behind z ks u) (nd_behind_ h)
theorem mem_adds {l : Str} : ∀ {us ks : List Str}, l ∈ us.foldl addB ks ↔ l ∈ ks ∨ l ∈ us
  | [], ks => ⟨.inl, fun h => h.elim id fun h => (nomatch h)⟩
  | u :: us, ks => by
    rw [List.foldl_cons, mem_adds, mem_addB, List.mem_cons, or_assoc]
theorem nd_adds : ∀ {us ks : List Str}, ks.Nodup → (us.foldl addB ks).Nodup
  | [], _, h => h
  | u :: us, ks, h => nd_adds (us := us) (ks := addB ks u) (addB_nodup h)
theorem mem_keys2 {z l : Str} {us : List Str} : l ∈ keys2 z us ↔ l = Str.ofString "" ∨ (∃ u ∈ us, ∃ c ∈ ls z, l = u ++ sg c) ∨ l ∈ us := by
  unfold keys2 keys1
  rw [mem_adds, mem_keys1_, List.mem_singleton, or_assoc]
theorem nd_keys2 (z : Str) (us : List Str) : (keys2 z us).Nodup := nd_adds (nd_keys1_ (List.nodup_cons.mpr ⟨(fun h => nomatch h), List.nodup_nil⟩))
theorem keys_get {kvs : List (Key × V)} {bs : List Str} (h : KeysOf kvs bs) {i : Nat} {k : Key} {v : V} (e : kvs[i]? = some (k, v)) : ∃ b, bs[i]? = some b ∧ k = Sum.inr b := by
  have e1 : (kvs.map (·.1))[i]? = some k := by rw [List.getElem?_map, e]; rfl
  rw [h.1, List.getElem?_map] at e1
  cases q : bs[i]? with
  | none =>
    rw [q] at e1
    cases e1
  | some b =>
    rw [q] at e1
    exact ⟨b, rfl, (Option.some.inj e1).symm⟩
theorem same_lock {H H1 : Hp} (s : Same H H1) (U : Addr) (o : HO) : Same (upd H U o) (upd H1 U o) := fun c u e => by
  by_cases h : c = U
  · rw [h, upd_same] at e ⊢
    exact e
  · rw [upd_ne h] at e ⊢
    exact s c u e
def spCells (K : PySem.W.Frag) : Sp := fun vs H Q _ => ∃ (z : Str) (L U : Addr) (rss : List (List Rule)) (us : List Str), vs = [.str z, .ref L, .ref U] ∧ Idxs K H L rss ∧ TxtD H U us ∧ us.length ≤ 410000
  ∧ (∀ u ∈ us, u.length ≤ 1000) ∧ z.length ≤ 4 ∧ ∀ H' p xs, Same H H' → H p = none → H' p = some (.lst xs) → RulesAt H' xs (cellsL z rss us) → Q (.ref p) H'
section
variable {P : Program} {w : World} {K : PySem.W.Frag} {mg : Str → Option Value} {base : Heap}
abbrev nCells : List Str := ["signs", "indexes", "uneven", "kinds", "line", "sign"]
theorem scCells : FnScope nCells ["signs", "indexes", "uneven"] (defScope sCells) :=
  ⟨rfl, rfl, rfl, by decide +kernel, rfl, by decide +kernel, by decide +kernel⟩
theorem ok_cells {f : Addr} {fd : FuncData} (F : Fun K "cells_of" "cells_of" sCells f fd) (cI : Ca P w K mg base "in_order" 4 ["lines"] (spInOrder K)) (cT : Ca P w K mg base "turned_through" 2 ["indexes", "line"] (spThrough K)) :
    FnOk P w K mg base CX0 5 f fd ["signs", "indexes", "uneven"] (spCells K) := by
  refine F.ok scCells (fun vs H Q E h => ?_) (fun cdv A outer s H vs Q E hr h => ?_)
  · obtain ⟨z, L, U, rss, us, rfl, _⟩ := h
    rfl
  · obtain ⟨z, L, U, rss, us, rfl, hI, ⟨uk, hU, huk⟩, lus, ly, lz, k⟩ := h
    have nd := scCells.nd
    have hu := hu_of hr
    have sz : sizeLine = 16777216 := rfl
    refine ⟨_, pss_cons (ps_set (i := 3) nd rfl (.inr rfl) (pe_disp (pps_cons pe_str pe_str pps_nil) (by rfl) (by rfl) (fun z => by cases z) (by decide)))
      (pss_cons (ps_lock (ps_for PassesOwn.never rfl (pi_keys (pv 2)) (pg_name (i := 4) nd rfl (.inl rfl))
        (pss_one (ps_for PassesOwn.never rfl (pi_str (pv 0)) (pg_name (i := 5) nd rfl (.inl rfl))
          (pss_one (ps_dput hu (pv 3) (pe_op op_add_str (pv 4) (pv 5)) pe_str rfl))))))
      (pss_cons (ps_lock (ps_for PassesOwn.never rfl (pi_keys (pv 2)) (pg_name (i := 4) nd rfl (.inl rfl))
        (pss_one (ps_dput hu (pv 3) (pv 4) pe_str rfl))))
      (pss_one (ps_ret (pe_lc (own := [("line", 4)]) (g := gName 4) (tt := tYes) rfl nd (pi_list (pe_ca cI hr (by rfl) (pa_cons (pv 3) pa_nil)))
        (blkOk_by (N := nCells) (sc := defScope sCells) (by decide +kernel))
        (fun _ _ _ _ _ => pg_name (i := 4) nd rfl (Or.inl rfl)) (fun _ _ _ _ _ => pts_nil)
        (fun _ _ _ _ _ => pe_tup (pa_cons (pe_dget hu (pv 3) (pv 4) (fun _ _ => rfl)) (pa_cons (pv 4) (pa_cons (pe_ca cT (hr.mono (by decide)) (by rfl) (pa_cons (pv 1) (pa_cons (pv 4) pa_nil))) pa_nil))))))))), ?_⟩
    intro D hD
    refine ⟨upd_same, [((Sum.inr (Str.ofString "") : Key), .str (Str.ofString "front"))], rfl, (by decide), ?_⟩
    have nUD : U ≠ D := ne_of_none hU hD
    have hlen0 : ∀ u ∈ us, u.length ≤ 1000 := ly
    have s0 : Same H (upd (upd H D (.dK [])) D (.dK (mergeK [] [((Sum.inr (Str.ofString "") : Key), V.str (Str.ofString "front"))]))) := ((Same.refl H).upd hD).upd hD
    have hD0 : (upd (upd H D (.dK [])) D (.dK (mergeK [] [((Sum.inr (Str.ofString "") : Key), V.str (Str.ofString "front"))]))) D = some (.dK [((Sum.inr (Str.ofString "") : Key), V.str (Str.ofString "front"))]) := upd_same
    generalize upd (upd H D (.dK [])) D (.dK (mergeK [] [((Sum.inr (Str.ofString "") : Key), V.str (Str.ofString "front"))])) = Ha at s0 hD0 ⊢
    refine ⟨U, _, s0 _ _ hU, trivial, fun od => ?_⟩
    have hfz : upd H U (.frz od (.dK uk)) U = some (.frz od (.dK uk)) := upd_same
    have hnD : upd H U (.frz od (.dK uk)) D = none := by rw [upd_ne (Ne.symm nUD)]; exact hD
    refine ⟨_, rfl, U, od, rfl, .inl ⟨uk, upd_same, for_it walk_keys (fun i σ Hi => ∃ (o4 o5 : Option V) (kvs : List (Key × V)) (ks : List Str), σ = [some (.str z), some (.ref L), some (.ref U), some (.ref D), o4, o5]
      ∧ Same (upd H U (.frz od (.dK uk))) Hi ∧ Hi D = some (.dK kvs) ∧ KeysOf kvs ks ∧ (∀ l ∈ ks, valV kvs (Sum.inr l : Key) = some (.str (kd (decide (l ∉ ([] : List Str)))))) ∧ ks = (us.take i).foldl (behind z) [Str.ofString ""] ∧ ks.length ≤ 1 + 4 * i) ?_ ?_ ?_ ?_⟩⟩
    · refine ⟨none, none, [((Sum.inr (Str.ofString "") : Key), V.str (Str.ofString "front"))], [Str.ofString ""], rfl, same_lock s0 _ _, by rw [upd_ne (Ne.symm nUD)]; exact hD0, ⟨rfl, List.nodup_cons.mpr ⟨(fun h => nomatch h), List.nodup_nil⟩⟩, fun l hl => ?_, rfl, Nat.le_refl _⟩
      rw [List.mem_singleton.mp hl, decide_eq_true (by simp)]
      rfl
    · rintro i σ Hi _ ⟨_, _, _, _, _, s1, _⟩
      exact s1 _ _ hfz
    · rintro i x σ Hi H' hi ⟨o4, o5, kvs, ks, rfl, s1, hDi, hk, hv, ek, lk⟩ ⟨rfl, key, v, hkv, rfl⟩
      obtain ⟨u, hu', rfl⟩ := keys_get huk hkv
      have hum : u ∈ us := List.mem_of_getElem? hu'
      have hiu : i < us.length := (List.getElem?_eq_some_iff.mp hu').1
      have lu := hlen0 u hum
      refine ⟨_, rfl, _, rfl, for_it walk_str (fun j σ Hj => ∃ (o5 : Option V) (kvs : List (Key × V)) (ks' : List Str), σ = [some (.str z), some (.ref L), some (.ref U), some (.ref D), some (.str u), o5]
        ∧ Same (upd H U (.frz od (.dK uk))) Hj ∧ Hj D = some (.dK kvs) ∧ KeysOf kvs ks' ∧ (∀ l ∈ ks', valV kvs (Sum.inr l : Key) = some (.str (kd (decide (l ∉ ([] : List Str)))))) ∧ ks' = (z.cps.toList.take j).foldl (fun ks c => addB ks (u ++ sg c)) ks ∧ ks'.length ≤ ks.length + j) ?_ ?_ ?_ ?_⟩
      · exact ⟨o5, kvs, ks, rfl, s1, hDi, hk, hv, rfl, Nat.le_refl _⟩
      · intros; trivial
      · rintro j x σ Hj H'' hj ⟨o5', kvs', ks', rfl, s2, hDj, hk', hv', ek', lk'⟩ ⟨rfl, c, hc, rfl⟩
        have hcl : z.cps.toList[j]? = some c := by rw [Array.getElem?_toList]; exact hc
        have hjz : j < z.length := hj
        have lc1 : (sg c).length = 1 := rfl
        refine ⟨_, rfl, _, rfl, _, rfl, u, sg c, rfl, rfl, (by rw [sz]; omega), D, _, rfl, DPut.k (k := Sum.inr (u ++ sg c)) hDj (by rw [hk'.len, sz]; omega), ?_⟩
        refine ⟨_, _, _, rfl, s2.upd hnD, upd_same, hk'.put _ _, kn_put1 hk' hv' _, ?_, Nat.le_trans (addB_len _ _) (by omega)⟩
        rw [take_snoc hcl, List.foldl_append, ← ek']
        rfl
      · rintro σ Hj ⟨o5', kvs', ks', rfl, s2, hDj, hk', hv', ek', lk'⟩
        have hzs : z.cps.size = z.length := rfl
        refine ⟨_, _, kvs', ks', rfl, s2, hDj, hk', hv', ?_, by omega⟩
        rw [take_snoc hu', List.foldl_append, ← ek, ek', List.take_of_length_le (by rw [Array.length_toList]; exact Nat.le_refl _)]
        rfl
    · rintro σ Hi ⟨o4, o5, kvs, ks, rfl, s1, hDi, hk, hv, ek, lk⟩
      refine ⟨s1 _ _ hfz, ?_⟩
      have sB : Same H (upd Hi U (.dK uk)) := same_unlock hU s1
      have hDB : upd Hi U (.dK uk) D = some (.dK kvs) := by rw [upd_ne (Ne.symm nUD)]; exact hDi
      have hukl : uk.length = us.length := huk.len
      have ek2 : ks = keys1 z us := by rw [ek, hukl, List.take_length]; rfl
      generalize upd Hi U (.dK uk) = Hb at sB hDB ⊢
      refine ⟨U, _, sB _ _ hU, trivial, fun od2 => ?_⟩
      have hfz2 : upd H U (.frz od2 (.dK uk)) U = some (.frz od2 (.dK uk)) := upd_same
      have hnD2 : upd H U (.frz od2 (.dK uk)) D = none := by rw [upd_ne (Ne.symm nUD)]; exact hD
      refine ⟨_, rfl, U, od2, rfl, .inl ⟨uk, upd_same, for_it walk_keys (fun i σ Hi => ∃ (o4 o5 : Option V) (kvs : List (Key × V)) (ks' : List Str), σ = [some (.str z), some (.ref L), some (.ref U), some (.ref D), o4, o5]
        ∧ Same (upd H U (.frz od2 (.dK uk))) Hi ∧ Hi D = some (.dK kvs) ∧ KeysOf kvs ks' ∧ (∀ l ∈ ks', valV kvs (Sum.inr l : Key) = some (.str (kd (decide (l ∉ us.take i))))) ∧ ks' = (us.take i).foldl addB ks ∧ ks'.length ≤ ks.length + i) ?_ ?_ ?_ ?_⟩⟩
      · exact ⟨o4, o5, kvs, ks, rfl, same_lock sB _ _, by rw [upd_ne (Ne.symm nUD)]; exact hDB, hk, hv, rfl, Nat.le_refl _⟩
      · rintro i σ Hi _ ⟨_, _, _, _, _, s1, _⟩
        exact s1 _ _ hfz2
      · rintro i x σ Hi H' hi ⟨o4, o5, kvs, ks', rfl, s1, hDi, hk, hv, ek, lk'⟩ ⟨rfl, key, v, hkv, rfl⟩
        obtain ⟨u, hu', rfl⟩ := keys_get huk hkv
        refine ⟨_, rfl, _, rfl, D, _, rfl, DPut.k (k := Sum.inr u) hDi (by rw [hk.len, sz]; omega), ?_⟩
        refine ⟨_, _, _, _, rfl, s1.upd hnD2, upd_same, hk.put _ _, ?_, ?_, Nat.le_trans (addB_len _ _) (by omega)⟩
        · rw [take_snoc hu']
          exact kn_put2 hk hv u
        · rw [take_snoc hu', List.foldl_append, ← ek]
          rfl
      · rintro σ Hi ⟨o4, o5, kvs, ks', rfl, s1, hDi, hk, hv, ek, lk'⟩
        refine ⟨s1 _ _ hfz2, ?_⟩
        have sC : Same H (upd Hi U (.dK uk)) := same_unlock hU s1
        have hDC : upd Hi U (.dK uk) D = some (.dK kvs) := by rw [upd_ne (Ne.symm nUD)]; exact hDi
        have ek3 : ks' = keys2 z us := by rw [ek, hukl, List.take_length, ek2]; rfl
        rw [hukl, List.take_length] at hv
        generalize upd Hi U (.dK uk) = Hc at sC hDC ⊢
        have hll : ∀ l ∈ ks', l.length ≤ 1001 := fun l hl => by
          rw [ek3] at hl
          rcases mem_keys2.mp hl with q | ⟨u, hm, c, _, q⟩ | q
          · rw [q]
            show (0 : Nat) ≤ 1001
            omega
          · have lc1 : (sg c).length = 1 := rfl
            have := hlen0 u hm
            rw [q, len_app]
            omega
          · have := hlen0 l q
            omega
        refine ⟨_, rfl, D, ks', rfl, ⟨kvs, hDC, hk.1⟩, fun l hl => (by have := hll l hl; rw [sz]; omega), fun H1 A1 kp nA hA => ?_⟩
        have sD : Same H H1 := fun c u e => kp c u (sC c u e)
        refine ⟨A1, rfl, ⟨_, SqL.of hA⟩, fun C hC => ?_⟩
        have lks : ks'.length ≤ 1 + 4 * us.length + us.length := by omega
        refine lc_it (walk_list (xs := (ordL ks').map V.str)) (fun j Hj => Same H1 Hj ∧ ∃ xs, Hj C = some (.lst xs) ∧ RulesAt Hj xs (((ordL ks').take j).map fun l => (⟨decide (l ∉ us), l, thr rss l⟩ : Rule))) ?_ ?_ ?_ ?_
        · exact ⟨(Same.refl H1).upd hC, [], upd_same, by rw [List.take_zero]; exact .nil⟩
        · rintro j Hj _ ⟨sj, _⟩
          exact SqL.of (sj _ _ hA)
        · rintro j x Hj0 Hj hj ⟨sj, xs, hx, rx⟩ ⟨rfl, hxj⟩
          rw [List.getElem?_map] at hxj
          cases hy : (ordL ks')[j]? with
          | none =>
            rw [hy] at hxj
            cases hxj
          | some l =>
            rw [hy] at hxj
            obtain rfl : V.str l = x := Option.some.inj hxj
            have hlm : l ∈ ks' := mem_ordL.mp (List.mem_of_getElem? hy)
            have hDj : Hj D = some (.dK kvs) := sj _ _ (kp _ _ hDC)
            have sE : Same H Hj := sD.trans sj
            have hjl : j < ks'.length := by have := (List.getElem?_eq_some_iff.mp hy).1; rw [ordL_len] at this; exact this
            have hxl : xs.length ≤ ks'.length := by
              have := paired_len rx
              rw [List.length_map, List.length_take, ordL_len] at this
              omega
            refine ⟨rfl, _, rfl, _, rfl, D, .str (kd (decide (l ∉ us))), rfl, (by have q := DGet.k (k := Sum.inr l) hDj; rw [hv l hlm] at q; exact q), ?_⟩
            refine ⟨_, rfl, _, rfl, _, rfl, L, l, rss, rfl, hI.same sE, (by have := hll l hlm; omega), fun H2 s2 => ?_⟩
            refine ⟨(by show 3 ≤ sizeLine; decide), fun T hT => ?_⟩
            have hx2 := s2 _ _ hx
            have nCT : C ≠ T := ne_of_none hx2 hT
            refine ⟨xs, by rw [upd_ne nCT]; exact hx2, by rw [sz]; omega, ((sj.trans s2).upd ((sj.trans s2).none hT)).upd hC, xs ++ [.ref T], upd_same, ?_⟩
            rw [take_snoc hy, List.map_append]
            have nTC : T ≠ C := Ne.symm nCT
            refine paired_snoc (rx.imp fun t a e => ?_) ⟨T, rfl, by rw [upd_ne nTC, upd_same]; rfl⟩
            have e2 := s2 _ _ e
            rw [upd_ne (ne_of e2 hx2 (by intro q; cases q)), upd_ne (ne_of_none e2 hT)]
            exact e2
        · rintro Hj ⟨sj, xs, hx, rx⟩
          rw [List.length_map, List.take_length] at rx
          refine k Hj C xs (sD.trans sj) (sD.none hC) hx ?_
          unfold cellsL
          rw [← ek3]
          exact rx
end
end K23
namespace K23
open PySem PySem.Spec PyProof.Rows L2 FL
/-- the table: that of any list of all uneven lines -/
theorem cells_same {z : Str} {rs : List Rule} {us vs : List Str} (h1 : UnOk z rs us) (h2 : UnOk z rs vs) : cellsL z [rs] us = cellsL z [rs] vs := by
  have e : ∀ u, u ∈ us ↔ u ∈ vs := fun u => (h1.mem u).trans (h2.mem u).symm
  have ek : ordL (keys2 z us) = ordL (keys2 z vs) := by
    refine ordL_of (nd_keys2 _ _) (nd_keys2 _ _) fun b => ?_
    rw [mem_keys2, mem_keys2, e b]
    constructor
    · rintro (h | ⟨u, hu, h⟩ | h)
      · exact .inl h
      · exact .inr (.inl ⟨u, (e u).mp hu, h⟩)
      · exact .inr (.inr h)
    · rintro (h | ⟨u, hu, h⟩ | h)
      · exact .inl h
      · exact .inr (.inl ⟨u, (e u).mpr hu, h⟩)
      · exact .inr (.inr h)
  unfold cellsL
  rw [ek]
  refine List.map_congr_left fun l _ => ?_
  have : (l ∉ us) ↔ (l ∉ vs) := not_congr (e l)
  rw [decide_eq_decide.mpr this]
def TabIs (z : Str) (rs cs : List Rule) : Prop := ∃ us, UnOk z rs us ∧ us.length ≤ 410000 ∧ cs = cellsL z [rs] us
theorem TabIs.one {z : Str} {rs cs ds : List Rule} (h1 : TabIs z rs cs) (h2 : TabIs z rs ds) : cs = ds := by
  obtain ⟨us, h1, _, rfl⟩ := h1
  obtain ⟨vs, h2, _, rfl⟩ := h2
  exact cells_same h1 h2
def spTable : Sp := fun vs H Q _ => ∃ (z : Str) (d : Addr) (rs : List Rule), vs = [.str z, .ref d] ∧ IdxAt H d rs ∧ RsOk rs ∧ z.length ≤ 4 ∧
  ∀ H' p xs cs, Same H H' → H p = none → H' p = some (.lst xs) → RulesAt H' xs cs → TabIs z rs cs → Q (.ref p) H'
def spLimited : Sp := fun vs H Q _ => ∃ (z : Str) (d : Addr) (rs : List Rule), vs = [.str z, .ref d] ∧ IdxAt H d rs ∧ RsOk rs ∧ z.length ≤ 4 ∧ (∀ us, UnOk z rs us → us.length * z.length + 1 ≤ 400) ∧
  ∀ H' p xs cs, Same H H' → H p = none → H' p = some (.lst xs) → RulesAt H' xs cs → TabIs z rs cs → Q (.ref p) H'
def spCheckCells : Sp := fun vs H Q _ => ∃ (z : Str) (U : Addr) (us : List Str), vs = [.str z, .ref U] ∧ TxtD H U us ∧ z.length ≤ 4 ∧ us.length * z.length + 1 ≤ 400 ∧ Q .non H
theorem un_len {z : Str} {rs : List Rule} {us : List Str} (ok : RsOk rs) (h : UnOk z rs us) {u : Str} (hu : u ∈ us) : u.length ≤ 40 :=
  asked_len ok (Classical.byContradiction fun na => (h.mem u).mp hu (not_asked na))
section
variable {P : Program} {w : World} {K : PySem.W.Frag} {mg : Str → Option Value} {base : Heap}
theorem scCheckCells : FnScope ["signs", "uneven"] ["signs", "uneven"] (defScope sCheckCells) :=
  ⟨rfl, rfl, rfl, by decide +kernel, rfl, by decide +kernel, by decide +kernel⟩
theorem ok_checkCells {f : Addr} {fd : FuncData} (F : Fun K "check_cells" "check_cells" sCheckCells f fd) (mN : mg "len" = none) {tk : Tok} (mM : mg "MOST_CELLS" = some (.int 400 tk)) :
    FnOk P w K mg base CX0 1 f fd ["signs", "uneven"] spCheckCells := by
  refine F.ok scCheckCells (fun vs H Q E h => ?_) (fun cdv A outer s H vs Q E hr h => ?_)
  · obtain ⟨z, U, us, rfl, _⟩ := h
    rfl
  · obtain ⟨z, U, us, rfl, ⟨kvs, hU, hk⟩, lz, hm, k⟩ := h
    have sz : sizeLine = 16777216 := rfl
    refine ⟨_, pss_one (ps_if (pt_cmpR op_gt (pe_op op_add (pe_op op_mul (pe_callB call_lenD (by rfl) mN PySem.boot_len (pa_cons (pv 1) pa_nil)) (pe_callB callLen (by rfl) mN PySem.boot_len (pa_cons (pv 0) pa_nil))) pe_int)
      (pe_glob (v := .int 400) rfl mM ⟨_, rfl⟩) (nomark _)) (pss_one ps_never) pss_nil), ?_⟩
    refine ⟨_, rfl, U, kvs, rfl, hU, _, rfl, _, z.length, rfl, ⟨(by rw [sz]; omega), rfl⟩, _, _, rfl, rfl, ?_⟩
    have hl : kvs.length = us.length := hk.len
    have hmul : ((kvs.length : Int) * (z.length : Int)) + 1 ≤ 400 := by
      rw [hl]
      exact_mod_cast hm
    refine ⟨?_, _, _, rfl, rfl, _, _, rfl, rfl, _, rfl, ?_⟩
    · exact .inr ⟨by omega, by omega⟩
    · refine ite2 (fun h => absurd (of_decide_eq_true h) (by omega)) (fun _ => k)
theorem scLimited : FnScope ["signs", "index", "uneven"] ["signs", "index"] (defScope sLimited) :=
  ⟨rfl, rfl, rfl, by decide +kernel, rfl, by decide +kernel, by decide +kernel⟩
theorem ok_limited {f : Addr} {fd : FuncData} (F : Fun K "limited_table" "limited_table" sLimited f fd) (cC : Ca P w K mg base "cells_of" 5 ["signs", "indexes", "uneven"] (spCells K)) (cU : Ca P w K mg base "uneven_of" 6 ["signs", "index"] spUnevenOf)
    (cK : Ca P w K mg base "check_cells" 1 ["signs", "uneven"] spCheckCells) :
    FnOk P w K mg base CX0 7 f fd ["signs", "index"] spLimited := by
  refine F.ok scLimited (fun vs H Q E h => ?_) (fun cdv A outer s H vs Q E hr h => ?_)
  · obtain ⟨z, d, rs, rfl, _⟩ := h
    rfl
  · obtain ⟨z, d, rs, rfl, ix, ok, lz, few, k⟩ := h
    have nd := scLimited.nd
    refine ⟨_, pss_cons (ps_set (i := 2) nd rfl (.inl rfl) (pe_ca cU hr (by rfl) (pa_cons (pv 0) (pa_cons (pv 1) pa_nil))))
      (pss_cons (ps_expr (pe_ca cK (hr.mono (by decide)) (by rfl) (pa_cons (pv 0) (pa_cons (pv 2) pa_nil))))
      (pss_one (ps_ret (pe_ca cC (hr.mono (by decide)) (by rfl) (pa_cons (pv 0) (pa_cons (pe_lst (pa_cons (pv 1) pa_nil)) (pa_cons (pv 2) pa_nil))))))), ?_⟩
    refine ⟨_, rfl, _, rfl, z, d, rs, rfl, ix, ok, lz, fun H2 U us s2 nU hU hun hlen => ?_⟩
    refine ⟨_, rfl, _, rfl, z, U, us, rfl, hU, lz, few us hun, ?_⟩
    refine ⟨_, rfl, _, rfl, (by show 1 ≤ sizeLine; decide), fun L hL => ?_⟩
    have s3 : Same H2 (upd H2 L (.lst [.ref d])) := (Same.refl H2).upd hL
    have s23 := s2.trans s3
    refine ⟨_, rfl, z, L, U, [rs], us, rfl, idxs_one upd_same (ix.same s23) ok, hU.same s3, hlen, fun u hu => (by have := un_len ok hun hu; omega), lz, fun H' p xs s' np hp hr' => ?_⟩
    exact k H' p xs _ (s23.trans s') (s23.none np) hp hr' ⟨us, hun, hlen, rfl⟩
end
end K23
namespace K23
open PySem PySem.Spec PyProof.Rows L2 FL
/-! ### the least line that two turn otherwise -/
theorem part_cell {z : Lns} {F G : Lns → Lns} : ∀ (n : Nat) (l : Lns), l.length = n → (∀ c ∈ l, c ∈ z) → F l ≠ G l → ∃ m, m <+: l ∧ F m ≠ G m ∧ (Cell z F m ∨ Cell z G m)
  | 0, l, e, hz, h => ⟨l, List.prefix_rfl, h, .inl (.inl (List.eq_nil_of_length_eq_zero e))⟩
  | n + 1, l, e, hz, h => by
    have hne : l ≠ [] := fun q => by rw [q] at e; cases e
    obtain ⟨u, c, rfl⟩ : ∃ u c, l = u ++ [c] := ⟨l.dropLast, l.getLast hne, (List.dropLast_concat_getLast hne).symm⟩
    have hc : c ∈ z := hz c (List.mem_append_right _ (List.mem_singleton.mpr rfl))
    have hu : ∀ d ∈ u, d ∈ z := fun d hd => hz d (List.mem_append_left _ hd)
    by_cases h1 : Evn z F u
    · by_cases h2 : Evn z G u
      · rw [h1.one hc, h2.one hc] at h
        obtain ⟨m, m1, m2, m3⟩ := part_cell (F := F) (G := G) n u (by rw [List.length_append] at e; exact Nat.succ.inj e) hu (fun q => h (by rw [q]))
        exact ⟨m, m1.trans (List.prefix_append _ _), m2, m3⟩
      · exact ⟨_, List.prefix_rfl, h, .inr (.inr (.inr ⟨u, c, hc, rfl, h2⟩))⟩
    · exact ⟨_, List.prefix_rfl, h, .inl (.inr (.inr ⟨u, c, hc, rfl, h1⟩))⟩
def olds (cs : List Rule) : List Str := cs.map (·.old)
theorem olds_cells (z : Str) (rss : List (List Rule)) (us : List Str) : olds (cellsL z rss us) = ordL (keys2 z us) := by
  unfold olds cellsL
  rw [List.map_map]
  show (ordL (keys2 z us)).map (fun l => l) = _
  rw [List.map_id']
/-- the lines of a table -/
theorem tab_mem {z : Str} {rs cs : List Rule} (h : TabIs z rs cs) (l : Str) : l ∈ olds cs ↔ Cell (ls z) (tL rs) (ls l) := by
  obtain ⟨us, h1, _, rfl⟩ := h
  rw [olds_cells, mem_ordL, mem_keys2]
  constructor
  · rintro (q | ⟨u, hu, c, hc, q⟩ | q)
    · exact .inl (by rw [q]; decide +kernel)
    · exact .inr (.inr ⟨ls u, c, hc, by rw [q, ls_sg], (h1.mem u).mp hu⟩)
    · exact .inr (.inl ((h1.mem l).mp q))
  · rintro (q | q | ⟨u, c, hc, q, hu⟩)
    · exact .inl (ls_inj (by rw [q]; decide +kernel))
    · exact .inr (.inr ((h1.mem l).mpr q))
    · refine .inr (.inl ⟨st u, (h1.mem _).mpr hu, c, hc, ls_inj ?_⟩)
      rw [q, ls_sg]
theorem asked_over {z : Str} {rs : List Rule} (ho : ∀ r ∈ rs, Over z r.old) {u : Lns} (h : ¬ Evn (ls z) (tL rs) u) : ∀ c ∈ u, c ∈ ls z := by
  obtain ⟨r, hr, hp⟩ : Asked rs (st u) := Classical.byContradiction fun na => h (not_asked (u := st u) na)
  exact fun c hc => ho r hr c (hp.subset hc)
theorem cell_over {z : Str} {rs : List Rule} (ho : ∀ r ∈ rs, Over z r.old) {l : Lns} (h : Cell (ls z) (tL rs) l) : ∀ c ∈ l, c ∈ ls z := by
  rcases h with q | q | ⟨u, c, hc, q, hu⟩
  · rw [q]; exact fun c hc => (nomatch hc)
  · exact asked_over ho q
  · rw [q]
    intro d hd
    rcases List.mem_append.mp hd with hd | hd
    · exact asked_over ho hu d hd
    · rw [List.mem_singleton.mp hd]; exact hc
theorem asked_max {z : Lns} {rs : List Rule} {M : Nat} (hM : ∀ r ∈ rs, r.old.length ≤ M) {u : Lns} (h : ¬ Evn z (tL rs) u) : u.length ≤ M := by
  obtain ⟨r, hr, hp⟩ : Asked rs (st u) := Classical.byContradiction fun na => h (not_asked (u := st u) na)
  have h1 : u.length ≤ r.old.cps.toList.length := hp.length_le
  have h2 := hM r hr
  rw [str_len] at h2
  omega
theorem cell_max {z : Lns} {rs : List Rule} {M : Nat} (hM : ∀ r ∈ rs, r.old.length ≤ M) {l : Lns} (h : Cell z (tL rs) l) : l.length ≤ M + 1 := by
  rcases h with q | q | ⟨u, c, hc, q, hu⟩
  · rw [q]; exact Nat.zero_le _
  · have := asked_max hM q; omega
  · have := asked_max hM hu
    rw [q, List.length_append]
    exact Nat.succ_le_succ this
/-- what parting_line tells -/
inductive PartV (z : Str) (rs1 rs2 : List Rule) : V → Prop
  | non (h : ∀ y, Over z y → turn rs1 y = turn rs2 y) : PartV z rs1 rs2 .non
  | at_ (y : Str) (ho : Over z y) (hd : turn rs1 y ≠ turn rs2 y) (hm : ∀ M, (∀ r ∈ rs1, r.old.length ≤ M) → (∀ r ∈ rs2, r.old.length ≤ M) → y.length ≤ M + 1)
      (hl : ∀ y', Over z y' → turn rs1 y' ≠ turn rs2 y' → lineLe y y' = true) : PartV z rs1 rs2 (.str y)
theorem turn_ne {rs1 rs2 : List Rule} {y : Str} : turn rs1 y ≠ turn rs2 y ↔ tL rs1 (ls y) ≠ tL rs2 (ls y) := by
  rw [← FL.turn_list, ← FL.turn_list]
  exact ⟨fun h q => h (ls_inj q), fun h q => h (by rw [q])⟩
theorem lineLe_prefix {a b : Str} (h : ls a <+: ls b) : lineLe a b = true := by
  refine lineLe_iff.mpr ?_
  have h1 : a.cps.toList.length ≤ b.cps.toList.length := h.length_le
  rw [str_len, str_len]
  by_cases e : a.cps.toList.length = b.cps.toList.length
  · refine .inr ⟨e, ?_⟩
    have : ls a = ls b := h.eq_of_length e
    rw [this]
    exact List.le_refl _
  · exact .inl (by omega)
/-- all lines that part: behind one of the cells' lines that does -/
theorem part_of {z : Str} {rs1 rs2 cs1 cs2 : List Rule} (h1 : TabIs z rs1 cs1) (h2 : TabIs z rs2 cs2) {y : Str} (ho : Over z y) (hd : turn rs1 y ≠ turn rs2 y) :
    ∃ l, (l ∈ olds cs1 ∨ l ∈ olds cs2) ∧ turn rs1 l ≠ turn rs2 l ∧ lineLe l y = true := by
  obtain ⟨m, m1, m2, m3⟩ := part_cell (z := ls z) (F := tL rs1) (G := tL rs2) _ (ls y) rfl ho (turn_ne.mp hd)
  refine ⟨st m, m3.imp (tab_mem h1 (st m)).mpr (tab_mem h2 (st m)).mpr, turn_ne.mpr m2, lineLe_prefix m1⟩
end K23
namespace K23
open PySem PySem.Spec PyProof.Rows L2 FL
theorem adds_len : ∀ {us ks : List Str}, (us.foldl addB ks).length ≤ ks.length + us.length
  | [], ks => Nat.le_refl _
  | u :: us, ks => by
    have h1 := adds_len (us := us) (ks := addB ks u)
    have h2 := addB_len ks u
    rw [List.foldl_cons, List.length_cons]
    omega
theorem behind_len_ {u : Str} : ∀ {cs : List Nat} {ks : List Str}, (cs.foldl (fun ks c => addB ks (u ++ sg c)) ks).length ≤ ks.length + cs.length
  | [], ks => Nat.le_refl _
  | c :: cs, ks => by
    have h1 := behind_len_ (u := u) (cs := cs) (ks := addB ks (u ++ sg c))
    have h2 := addB_len ks (u ++ sg c)
    rw [List.foldl_cons, List.length_cons]
    omega
theorem keys1_len_ {z : Str} (hz : z.length ≤ 4) : ∀ {us ks : List Str}, (us.foldl (behind z) ks).length ≤ ks.length + 4 * us.length
  | [], ks => Nat.le_refl _
  | u :: us, ks => by
    have h1 := keys1_len_ hz (us := us) (ks := behind z ks u)
    have h2 : (behind z ks u).length ≤ ks.length + z.cps.toList.length := behind_len_
    rw [str_len] at hz
    rw [List.foldl_cons, List.length_cons]
    omega
theorem tab_len {z : Str} {rs cs : List Rule} (hz : z.length ≤ 4) (h : TabIs z rs cs) : cs.length ≤ 2050001 := by
  obtain ⟨us, _, hl, rfl⟩ := h
  unfold cellsL
  rw [List.length_map, ordL_len]
  have h1 : (keys2 z us).length ≤ (keys1 z us).length + us.length := adds_len
  have h2 : (keys1 z us).length ≤ 1 + 4 * us.length := keys1_len_ hz
  omega
end K23
namespace K23
open PySem PySem.Spec PyProof.Rows L2 FL
/-! ### tables are equal exactly if all lines are turned alike -/
structure ROk (z : Str) (rs : List Rule) : Prop where
  few : rs.length ≤ 400
  ok : ∀ r ∈ rs, RuleOk z 40 r
theorem ROk.rsOk {z : Str} {rs : List Rule} (h : ROk z rs) : RsOk rs := ⟨Nat.le_trans h.few (by decide), fun r hr => (h.ok r hr).o2, fun r hr => Nat.le_trans (h.ok r hr).n2 (by decide)⟩
theorem ROk.over {z : Str} {rs : List Rule} (h : ROk z rs) : ∀ r ∈ rs, Over z r.old := fun r hr => (h.ok r hr).o1
def Alike (z : Str) (rs1 rs2 : List Rule) : Prop := ∀ y, Over z y → turn rs1 y = turn rs2 y
theorem alike_list {z : Str} {rs1 rs2 : List Rule} : Alike z rs1 rs2 ↔ ∀ l, (∀ c ∈ l, c ∈ ls z) → tL rs1 l = tL rs2 l := by
  constructor
  · intro h l hl
    have := congrArg ls (h (st l) hl)
    rw [FL.turn_list, FL.turn_list] at this
    exact this
  · intro h y hy
    apply ls_inj
    rw [FL.turn_list, FL.turn_list]
    exact h _ hy
theorem cell_new {z : Str} {rs cs : List Rule} (h : TabIs z rs cs) {c : Rule} (hc : c ∈ cs) : c.new = turn rs c.old := by
  obtain ⟨us, _, _, rfl⟩ := h
  obtain ⟨l, _, rfl⟩ := List.mem_map.mp hc
  rfl
theorem alike_un {z : Str} {rs1 rs2 : List Rule} (h1 : ROk z rs1) (h2 : ROk z rs2) (ha : Alike z rs1 rs2) {us : List Str} (hu : UnOk z rs1 us) : UnOk z rs2 us := by
  refine ⟨hu.nd, fun u => ?_⟩
  rw [hu.mem u]
  by_cases ho : ∀ c ∈ ls u, c ∈ ls z
  · exact not_congr (Evn.congr ho (alike_list.mp ha))
  · exact ⟨fun q => absurd (asked_over h1.over q) ho, fun q => absurd (asked_over h2.over q) ho⟩
theorem tab_eq_iff {z : Str} {rs1 rs2 cs1 cs2 : List Rule} (h1 : ROk z rs1) (h2 : ROk z rs2) (t1 : TabIs z rs1 cs1) (t2 : TabIs z rs2 cs2) : cs1 = cs2 ↔ Alike z rs1 rs2 := by
  constructor
  · intro e
    subst e
    refine alike_list.mpr fun l hl => ?_
    refine agree (z := ls z) (fun m hm hc => ?_) _ l rfl hl
    have hmem : st m ∈ olds cs1 := hc.elim (tab_mem t1 (st m)).mpr (tab_mem t2 (st m)).mpr
    obtain ⟨c, hcm, hce⟩ := List.mem_map.mp hmem
    have e1 := cell_new t1 hcm
    have e2 := cell_new t2 hcm
    have e3 := congrArg ls (e1.symm.trans e2)
    rw [hce, FL.turn_list, FL.turn_list] at e3
    exact e3
  · intro ha
    obtain ⟨us, hu, hl, rfl⟩ := t1
    have t3 : TabIs z rs2 (cellsL z [rs2] us) := ⟨us, alike_un h1 h2 ha hu, hl, rfl⟩
    rw [t2.one t3]
    unfold cellsL
    refine List.map_congr_left fun l hlm => ?_
    have ho : Over z l := by
      have : l ∈ olds (cellsL z [rs1] us) := by rw [olds_cells]; exact hlm
      exact cell_over h1.over ((tab_mem ⟨us, hu, hl, rfl⟩ l).mp this)
    have e : thr [rs1] l = thr [rs2] l := ha l ho
    rw [e]
theorem cell_ok {z : Str} {rs cs : List Rule} (h : ROk z rs) (t : TabIs z rs cs) {c : Rule} (hc : c ∈ cs) : Over z c.old ∧ c.old.length ≤ 41 ∧ Over z c.new ∧ c.new.length ≤ 81 := by
  have hm : c.old ∈ olds cs := List.mem_map.mpr ⟨c, hc, rfl⟩
  have hcell := (tab_mem t _).mp hm
  have ho := cell_over h.over hcell
  have hl : c.old.length ≤ 41 := by
    rw [str_len]
    exact cell_max (M := 40) (fun r hr => (h.ok r hr).o2) hcell
  have e := cell_new t hc
  obtain ⟨q1, q2⟩ := turn_note (b := 40) h.ok ho
  rw [← e] at q1 q2
  exact ⟨ho, hl, q1, by omega⟩
end K23
namespace K23
open PySem PySem.Spec PyProof.Rows L2 FL
abbrev sTabM : Stmt := inClass (topS 50) 4
/-- what a relay's table may be at most -/
def Few (z : Str) (rs : List Rule) : Prop := ∀ us, UnOk z rs us → us.length * z.length + 1 ≤ 400
def spTabM (C : Addr) : Sp := fun vs H Q _ => ∃ (p : Addr) (z : Str) (rs : List Rule), vs = [.ref p] ∧ RelayAt C H p z rs ∧ ROk z rs ∧ z.length ≤ 4 ∧ Few z rs ∧
  ∀ H' a xs cs, Same H H' → H a = none → H' a = some (.lst xs) → RulesAt H' xs cs → TabIs z rs cs → Q (.ref a) H'
section
variable {P : Program} {w : World} {K : PySem.W.Frag} {mg : Str → Option Value} {base : Heap}
theorem scTabM : FnScope ["self"] ["self"] (defScope sTabM) := ⟨rfl, rfl, rfl, by decide +kernel, rfl, by decide +kernel, by decide +kernel⟩
theorem ok_tabM {f C : Addr} {fd : FuncData} (F : Fun K "table" "Relay.table" sTabM f fd) (T : RTxt K mg C) (cL : Ca P w K mg base "limited_table" 7 ["signs", "index"] spLimited) :
    FnOk P w K mg base CX0 8 f fd ["self"] (spTabM C) := by
  refine F.ok scTabM (fun vs H Q E h => ?_) (fun cdv A outer s H vs Q E hr h => ?_)
  · obtain ⟨_, _, _, rfl, _⟩ := h
    rfl
  · obtain ⟨p, z, rs, rfl, ⟨dx, ra, ia, xs, h1, h2, h3, h4⟩, ok, lz, few, k⟩ := h
    refine ⟨_, pss_one (ps_ret (pe_ca cL hr (by rfl) (pa_cons (pe_fld (pv 0) rfl) (pa_cons (pe_fld (pv 0) rfl) pa_nil)))), ?_⟩
    refine ⟨_, rfl, p, C, dx, _, _, rfl, h1, T.cl, T.nS, flds_signs z ra ia, _, rfl, p, C, dx, _, _, rfl, h1, T.cl, T.nI, flds_index z ra ia, ?_⟩
    exact ⟨z, ia, rs, rfl, h4, ok.rsOk, lz, few, k⟩
end
end K23
namespace K23
open PySem PySem.Spec PyProof.Rows L2 FL
section
variable {P : Program} {w : World} {K : PySem.W.Frag} {mg : Str → Option Value} {base : Heap}
abbrev sTable2 : Stmt := topS 42
theorem scTable : FnScope ["signs", "index"] ["signs", "index"] (defScope sTable2) :=
  ⟨rfl, rfl, rfl, by decide +kernel, rfl, by decide +kernel, by decide +kernel⟩
theorem ok_table {f : Addr} {fd : FuncData} (F : Fun K "table_of" "table_of" sTable2 f fd) (cC : Ca P w K mg base "cells_of" 5 ["signs", "indexes", "uneven"] (spCells K)) (cU : Ca P w K mg base "uneven_of" 6 ["signs", "index"] spUnevenOf) :
    FnOk P w K mg base CX0 7 f fd ["signs", "index"] spTable := by
  refine F.ok scTable (fun vs H Q E h => ?_) (fun cdv A outer s H vs Q E hr h => ?_)
  · obtain ⟨z, d, rs, rfl, _⟩ := h
    rfl
  · obtain ⟨z, d, rs, rfl, ix, ok, lz, k⟩ := h
    refine ⟨_, pss_one (ps_ret (pe_ca cC (hr.mono (by decide)) (by rfl) (pa_cons (pv 0) (pa_cons (pe_lst (pa_cons (pv 1) pa_nil)) (pa_cons (pe_ca cU hr (by rfl) (pa_cons (pv 0) (pa_cons (pv 1) pa_nil))) pa_nil))))), ?_⟩
    refine ⟨_, rfl, _, rfl, (by show 1 ≤ sizeLine; decide), fun L hL => ?_⟩
    have s1 : Same H (upd H L (.lst [.ref d])) := (Same.refl H).upd hL
    refine ⟨_, rfl, _, rfl, z, d, rs, rfl, ix.same s1, ok, lz, fun H2 U us s2 nU hU hun hlen => ?_⟩
    have s12 := s1.trans s2
    refine ⟨z, L, U, [rs], us, rfl, idxs_one (s2 _ _ upd_same) (ix.same s12) ok, hU, hlen, fun u hu => (by have := un_len ok hun hu; omega), lz, fun H' p xs s' np hp hr' => ?_⟩
    exact k H' p xs _ (s12.trans s') (s12.none np) hp hr' ⟨us, hun, hlen, rfl⟩
end
abbrev sSame : Stmt := topS 24
abbrev sAlike : Stmt := inClass (topS 50) 7
def spSame : Sp := fun vs H Q _ => ∃ z : Str, vs = [.str z, .str z] ∧ Q .non H
def spAlike (C : Addr) : Sp := fun vs H Q _ => ∃ (p q : Addr) (z : Str) (rs1 rs2 : List Rule), vs = [.ref p, .ref q] ∧ RelayAt C H p z rs1 ∧ RelayAt C H q z rs2 ∧ ROk z rs1 ∧ ROk z rs2 ∧ Abc z ∧
  ∀ H' b, Same H H' → (b = true ↔ Alike z rs1 rs2) → Q (.bl b) H'
section
variable {P : Program} {w : World} {K : PySem.W.Frag} {mg : Str → Option Value} {base : Heap}
theorem scSame : FnScope ["one", "other"] ["one", "other"] (defScope sSame) := ⟨rfl, rfl, rfl, by decide +kernel, rfl, by decide +kernel, by decide +kernel⟩
theorem scAlike : FnScope ["self", "other"] ["self", "other"] (defScope sAlike) := ⟨rfl, rfl, rfl, by decide +kernel, rfl, by decide +kernel, by decide +kernel⟩
theorem ok_same {f : Addr} {fd : FuncData} (F : Fun K "check_same_signs" "check_same_signs" sSame f fd) : FnOk P w K mg base CX0 1 f fd ["one", "other"] spSame := by
  refine F.ok scSame (fun vs H Q E h => ?_) (fun cdv A outer s H vs Q E hr h => ?_)
  · obtain ⟨z, rfl, _⟩ := h
    rfl
  · obtain ⟨z, rfl, k⟩ := h
    refine ⟨_, pss_one (ps_if (pt_cmpR op_ne (pv 0) (pv 1) (nomark _)) (pss_one ps_never) pss_nil), ?_⟩
    refine ⟨_, rfl, _, rfl, rfl, _, rfl, ?_⟩
    rw [decide_eq_true (show V.str z = V.str z from rfl)]
    exact iteF k
theorem ok_alike {f C : Addr} {fd : FuncData} (F : Fun K "is_alike" "Relay.is_alike" sAlike f fd) (T : RTxt K mg C) (cS : Ca P w K mg base "check_same_signs" 1 ["one", "other"] spSame) (cT : Ca P w K mg base "table_of" 7 ["signs", "index"] spTable) :
    FnOk P w K mg base CX0 8 f fd ["self", "other"] (spAlike C) := by
  refine F.ok scAlike (fun vs H Q E h => ?_) (fun cdv A outer s H vs Q E hr h => ?_)
  · obtain ⟨_, _, _, _, _, rfl, _⟩ := h
    rfl
  · obtain ⟨p, q, z, rs1, rs2, rfl, ⟨dx, ra, ia, xs, h1, h2, h3, h4⟩, ⟨dy, rb, ib, ys, g1, g2, g3, g4⟩, ok1, ok2, az, k⟩ := h
    refine ⟨_, pss_cons (ps_expr (pe_ca cS (hr.mono (by decide)) (by rfl) (pa_cons (pe_fld (pv 0) rfl) (pa_cons (pe_fld (pv 1) rfl) pa_nil))))
      (pss_one (ps_ret (pe_cmpR (op_eqD hr.units) (pe_ca cT hr (by rfl) (pa_cons (pe_fld (pv 0) rfl) (pa_cons (pe_fld (pv 0) rfl) pa_nil))) (pe_ca cT hr (by rfl) (pa_cons (pe_fld (pv 0) rfl) (pa_cons (pe_fld (pv 1) rfl) pa_nil))) (nomark _)))), ?_⟩
    refine ⟨_, rfl, p, C, dx, _, _, rfl, h1, T.cl, T.nS, flds_signs z ra ia, _, rfl, q, C, dy, _, _, rfl, g1, T.cl, T.nS, flds_signs z rb ib, z, rfl, ?_⟩
    refine ⟨_, rfl, p, C, dx, _, _, rfl, h1, T.cl, T.nS, flds_signs z ra ia, _, rfl, p, C, dx, _, _, rfl, h1, T.cl, T.nI, flds_index z ra ia, z, ia, rs1, rfl, h4, ok1.rsOk, az.hi, fun H2 a1 xs1 cs1 s2 n1 ha1 hr1 t1 => ?_⟩
    have h1' := s2 _ _ h1
    have g1' := s2 _ _ g1
    refine ⟨_, rfl, p, C, dx, _, _, rfl, h1', T.cl, T.nS, flds_signs z ra ia, _, rfl, q, C, dy, _, _, rfl, g1', T.cl, T.nI, flds_index z rb ib, z, ib, rs2, rfl, g4.same s2, ok2.rsOk, az.hi, fun H3 a2 xs2 cs2 s3 n2 ha2 hr2 t2 => ?_⟩
    have rp1 : RP 81 cs1 := fun c hc => by
      obtain ⟨q1, q2, q3, q4⟩ := cell_ok ok1 t1 hc
      exact ⟨az.plain q1, az.plain q3, by omega, q4⟩
    have rp2 : RP 81 cs2 := fun c hc => by
      obtain ⟨q1, q2, q3, q4⟩ := cell_ok ok2 t2 hc
      exact ⟨az.plain q1, az.plain q3, by omega, q4⟩
    refine ⟨_, _, dp_list (SqL.of (s3 _ _ ha1)) (RulesAt.imp hr1 fun t a e => s3 t _ e), dp_list (SqL.of ha2) hr2, rp1.sm.shaped, rp2.sm.shaped, ?_⟩
    refine k H3 (rsEq cs1 cs2) (s2.trans s3) ?_
    rw [rsEq_iff, tab_eq_iff ok1 ok2 t1 t2]
end
end K23
namespace K23
open PySem PySem.Spec PyProof.Rows L2 FL
/-- all lines up to a length, in their order -/
def spNotesX : Sp := fun vs H Q _ => ∃ (z : Str) (m : Int), vs = [.str z, .int m] ∧ 0 < z.length ∧ z.length ≤ 4 ∧ 0 ≤ m ∧ m ≤ 8 ∧
  ∀ (D : Addr) (H' : Hp), H D = none → H' D = some (.lst ((notesL z m.toNat).map V.str)) → (notesL z m.toNat).length ≤ 600000 → Same H H' → Q (.ref D) H'
theorem pow_bound5 {n i : Nat} (h1 : n ≤ 4) (h2 : i ≤ 8) (h0 : 0 < n) : n ^ i ≤ 65536 :=
  Nat.le_trans (Nat.pow_le_pow_left h1 i) (Nat.le_trans (Nat.pow_le_pow_right (by decide) h2) (by decide))
section
variable {P : Program} {w : World} {K : PySem.W.Frag} {mg : Str → Option Value} {base : Heap}
abbrev nNotesX : List Str := ["_law_abc_here", "_law_most", "_law_found", "_law_last", "_law_turn_here", "_law_longer", "_law_note_here", "_law_letter"]
theorem scNotesX : FnScope nNotesX ["_law_abc_here", "_law_most"] (defScope sNotes) :=
  ⟨rfl, rfl, rfl, by decide +kernel, rfl, by decide +kernel, by decide +kernel⟩
theorem ok_notesX {f : Addr} {fd : FuncData} (F : Fun K "_law_notes" "_law_notes" sNotes f fd) (mR : mg "range" = none) :
    FnOk P w K mg base CX0 1 f fd ["_law_abc_here", "_law_most"] spNotesX := by
  refine F.ok scNotesX (fun vs H Q E h => ?_) (fun cdv A outer s H vs Q E hr h => ?_)
  · obtain ⟨_, _, rfl, _⟩ := h
    rfl
  · obtain ⟨z, m, rfl, z0, z1, m0, m1, k⟩ := h
    have nd := scNotesX.nd
    refine ⟨_, pss_cons (ps_par (i := 2) (j := 3) (by rfl) nd rfl rfl (by decide) rfl rfl
        (pa_cons (pe_lst (pa_cons pe_str pa_nil)) (pa_cons (pe_lst (pa_cons pe_str pa_nil)) pa_nil)) (by rfl))
      (pss_cons (ps_for PassesOwn.never rfl (pi_range1 (by rfl) mR (pa_cons (pv 1) pa_nil)) (pg_name (i := 4) nd rfl (.inl rfl))
        (pss_cons (ps_set (i := 5) nd rfl (.inl rfl) (pe_lst pa_nil))
        (pss_cons (ps_for PassesOwn.never rfl (pi_list (pv 3)) (pg_name (i := 6) nd rfl (.inr rfl))
          (pss_one (ps_expr (pe_bm PySem.F.plainAttrs_list PySem.F.slot_list_extend PySem.F.type_list_extend mtExtend (pv 5)
            (pa_cons (pe_lc (own := [("_law_letter", 7)]) (g := gName 7) (tt := tYes) rfl nd (pi_str (pv 0))
              (blkOk_by (N := nNotesX) (sc := defScope sNotes) (by decide +kernel))
              (fun _ _ _ _ _ => pg_name (i := 7) nd rfl (Or.inl rfl)) (fun _ _ _ _ _ => pts_nil)
              (fun _ _ _ _ _ => pe_op op_add_str (pv 6) (pv 7))) pa_nil)))))
        (pss_one (ps_par (i := 2) (j := 3) (by rfl) nd rfl rfl (by decide) rfl rfl
          (pa_cons (pe_op op_cat (pv 2) (pv 5)) (pa_cons (pv 5) pa_nil)) (by rfl))))))
      (pss_one (ps_ret (pv 2)))), ?_⟩
    have sz : sizeLine = 16777216 := rfl
    have hn : z.cps.size = z.length := rfl
    refine ⟨by decide, fun A1 hA1 => ?_⟩
    refine ⟨by decide, fun A2 hA2 => ?_⟩
    have n12 : A1 ≠ A2 := fun e => by
      rw [e] at hA2
      rw [upd_same] at hA2
      cases hA2
    have hA20 : H A2 = none := by
      rw [upd_ne (Ne.symm n12)] at hA2
      exact hA2
    refine ⟨_, _, rfl, _, rfl, m, rfl, by omega, by omega, ?_⟩
    refine for_range (lo := 0) (n := m.toNat) (fun i σ Hi => ∃ (o4 o5 o6 : Option V) (F1 La : Addr) (fs ls : List Str),
        σ = [some (.str z), some (.int m), some (.ref F1), some (.ref La), o4, o5, o6, none] ∧ H F1 = none ∧ H La = none
      ∧ Hi F1 = some (.lst (fs.map V.str)) ∧ Hi La = some (.lst (ls.map V.str)) ∧ ls.length = z.length ^ i ∧ fs.length ≤ 65536 * (i + 1)
      ∧ ls = lev z i ∧ fs = notesL z i ∧ Same H Hi) ?_ ?_ ?_
    · -- the empty row
      refine ⟨_, _, _, A1, A2, [Str.ofString ""], [Str.ofString ""], rfl, hA1, hA20, ?_, upd_same, by simp, by simp, ?_, ?_, ((Same.refl H).upd hA1).upd hA20⟩
      · rw [upd_ne n12, upd_same]
        rfl
      · rfl
      · rfl
    · rintro i σ Hi hi ⟨o4, o5, o6, F1, La, fs, ls, rfl, nF, nL, hF, hL, ll, lf, okl, okf, sm⟩
      refine ⟨by decide, fun L hL0 => ?_⟩
      have nFL : F1 ≠ L := ne_of_none hF hL0
      have nLL : La ≠ L := ne_of_none hL hL0
      have h0L : H L = none := sm.none hL0
      have hi4 : i ≤ 8 := by omega
      have pb := pow_bound5 z1 hi4 z0
      refine ⟨_, rfl, La, rfl, ⟨_, SqL.of (by rw [upd_ne nLL]; exact hL)⟩, for_list (xs := ls.map V.str) (fun j σ Hj => ∃ (o6 : Option V) (ws : List Str),
          σ = [some (.str z), some (.int m), some (.ref F1), some (.ref La), some (.int (0 + i)), some (.ref L), o6, none]
        ∧ Hj F1 = some (.lst (fs.map V.str)) ∧ Hj La = some (.lst (ls.map V.str)) ∧ Hj L = some (.lst (ws.map V.str)) ∧ ws.length = j * z.length ∧ ws = (ls.take j).flatMap (ext z) ∧ Same H Hj) ?_ ?_ ?_ ?_⟩
      · exact ⟨_, [], rfl, by rw [upd_ne nFL]; exact hF, by rw [upd_ne nLL]; exact hL, upd_same, by simp, (by rw [List.take_zero]; rfl), sm.upd h0L⟩
      · rintro j σ Hj _ ⟨_, ws, rfl, _, h2, _⟩
        exact SqL.of h2
      · rintro j x σ Hj hx ⟨o6, ws, rfl, h1, h2, h3, lw, okw, sj⟩
        rw [List.getElem?_map] at hx
        cases hy : ls[j]? with
        | none =>
          rw [hy] at hx
          cases hx
        | some y =>
          rw [hy] at hx
          obtain rfl : V.str y = x := Option.some.inj hx
          have my : y ∈ ls := List.mem_of_getElem? hy
          have jl : j < ls.length := (List.getElem?_eq_some_iff.mp hy).1
          have oky : y.length = i := (mem_lev.mp (okl ▸ my)).2
          refine ⟨_, rfl, .inl ⟨rfl, _, SqL.of h3⟩, _, rfl, z, rfl, fun C hC => ?_⟩
          have nCL : L ≠ C := ne_of_none h3 hC
          have h0C : H C = none := sj.none hC
          refine lc_it walk_str (fun t Ht => ∃ cs : List Str, Ht C = some (.lst (cs.map V.str)) ∧ cs.length = t ∧ cs = (z.cps.toList.take t).map (fun c => y ++ sg1 c)
            ∧ Ht F1 = some (.lst (fs.map V.str)) ∧ Ht La = some (.lst (ls.map V.str)) ∧ Ht L = some (.lst (ws.map V.str)) ∧ Same H Ht) ?_ (fun _ _ _ _ => trivial) ?_ ?_
          · exact ⟨[], upd_same, rfl, (by rw [List.take_zero]; rfl), by rw [upd_ne (ne_of_none h1 hC)]; exact h1, by rw [upd_ne (ne_of_none h2 hC)]; exact h2, by rw [upd_ne nCL]; exact h3, sj.upd h0C⟩
          · rintro t x Ht _ ht ⟨cs, g0, g1, g2, g3, g4, g5, g6⟩ ⟨rfl, c, hc, rfl⟩
            have hcl : z.cps.toList[t]? = some c := by simpa using hc
            have ly : y.length ≤ i := Nat.le_of_eq oky
            refine ⟨rfl, _, rfl, _, rfl, _, _, rfl, rfl, (by rw [len_one, sz]; omega), ?_⟩
            have nCF : F1 ≠ C := ne_of_none h1 hC
            have nCA : La ≠ C := ne_of_none h2 hC
            refine ⟨_, g0, (by rw [List.length_map, sz]; omega), cs ++ [y ++ ⟨#[c]⟩], ?_, ?_, ?_, ?_, ?_, ?_, g6.upd h0C⟩
            · rw [upd_same, List.map_append]
              rfl
            · rw [List.length_append, g1]
              rfl
            · rw [take_snoc hcl, List.map_append, ← g2]
              rfl
            · rw [upd_ne nCF]
              exact g3
            · rw [upd_ne nCA]
              exact g4
            · rw [upd_ne nCL]
              exact g5
          · rintro Ht ⟨cs, g0, g1, g2, g3, g4, g5, g6⟩
            have jz : (j + 1) * z.length ≤ 65536 * 4 := Nat.mul_le_mul (by omega) z1
            have jz2 : (j + 1) * z.length = j * z.length + z.length := Nat.succ_mul _ _
            refine ⟨L, C, _, _, rfl, rfl, g5, g0, (by rw [List.length_map, List.length_map, sz]; omega), ?_⟩
            have nFL2 : F1 ≠ L := nFL
            refine ⟨_, ws ++ cs, rfl, by rw [upd_ne nFL]; exact g3, by rw [upd_ne nLL]; exact g4, by rw [upd_same, List.map_append], ?_, ?_, g6.upd h0L⟩
            · rw [List.length_append, lw, g1]
              omega
            · have ez : cs = ext z y := by
                rw [g2, List.take_of_length_le (by rw [Array.length_toList]; exact Nat.le_refl _)]
                rfl
              rw [take_snoc hy, List.flatMap_append, ← okw, ez]
              simp
      · rintro σ Hj ⟨o6, ws, rfl, h1, h2, h3, lw, okw, sj⟩
        rw [List.length_map] at lw
        have pw : ws.length = z.length ^ (i + 1) := by
          rw [lw, ll, Nat.pow_succ]
        have pb2 := pow_bound5 z1 (show i + 1 ≤ 8 by omega) z0
        refine ⟨_, rfl, _, rfl, F1, L, _, _, rfl, rfl, h1, h3, (by rw [List.length_map, List.length_map, sz]; omega), fun Pp hP => ?_⟩
        refine ⟨_, rfl, _, _, rfl, ?_⟩
        refine ⟨_, _, _, Pp, L, fs ++ ws, ws, rfl, sj.none hP, h0L, by rw [upd_same, List.map_append], by rw [upd_ne (ne_of_none h3 hP)]; exact h3, pw, ?_, ?_, ?_, sj.upd (sj.none hP)⟩
        · rw [List.length_append]
          omega
        · rw [okw, List.length_map, List.take_length, okl]
          rfl
        · rw [okf]
          have e2 : ws = lev z (i + 1) := by
            rw [okw, List.length_map, List.take_length, okl]
            rfl
          rw [e2]
          rfl
    · rintro σ Hi ⟨o4, o5, o6, F1, La, fs, ls, rfl, nF, nL, hF, hL, ll, lf, okl, okf, sm⟩
      rw [okf] at hF lf
      exact ⟨_, rfl, k F1 Hi nF hF (by omega) sm⟩
end
end K23
namespace K23
open PySem PySem.Spec PyProof.Rows L2 FL
theorem nodup_le {α : Type} [DecidableEq α] : ∀ {l m : List α}, l.Nodup → (∀ x ∈ l, x ∈ m) → l.length ≤ m.length
  | [], _, _, _ => Nat.zero_le _
  | x :: l, m, hn, hs => by
    obtain ⟨h1, h2⟩ := List.nodup_cons.mp hn
    have hx := hs x List.mem_cons_self
    have ih := nodup_le (l := l) (m := m.erase x) h2 fun y hy => (List.mem_erase_of_ne (fun e => h1 (by rw [← e]; exact hy))).mpr (hs y (List.mem_cons_of_mem _ hy))
    rw [List.length_erase_of_mem hx] at ih
    have : 0 < m.length := List.length_pos_of_mem hx
    rw [List.length_cons]
    omega
def begs (r : Rule) : List Str := (List.range (r.old.length + 1)).map fun n => st ((ls r.old).take n)
theorem begs_len {M : Nat} : ∀ {rs : List Rule}, (∀ r ∈ rs, r.old.length ≤ M) → (rs.flatMap begs).length ≤ (M + 1) * rs.length
  | [], _ => Nat.zero_le _
  | r :: rs, h => by
    have ih := begs_len (rs := rs) fun r' hr' => h r' (List.mem_cons_of_mem _ hr')
    have h0 := h r List.mem_cons_self
    rw [List.flatMap_cons, List.length_append, List.length_cons, Nat.mul_succ]
    have : (begs r).length = r.old.length + 1 := by unfold begs; rw [List.length_map, List.length_range]
    omega
theorem un_count {z : Str} {rs : List Rule} {us : List Str} {M : Nat} (h : UnOk z rs us) (hM : ∀ r ∈ rs, r.old.length ≤ M) : us.length ≤ (M + 1) * rs.length := by
  refine Nat.le_trans (nodup_le h.nd fun u hu => ?_) (begs_len hM)
  obtain ⟨r, hr, hp⟩ : Asked rs u := Classical.byContradiction fun na => (h.mem u).mp hu (not_asked na)
  refine List.mem_flatMap.mpr ⟨r, hr, List.mem_map.mpr ⟨(ls u).length, List.mem_range.mpr ?_, ls_inj ?_⟩⟩
  · rw [str_len]
    exact Nat.lt_succ_of_le hp.length_le
  · exact (List.prefix_iff_eq_take.mp hp).symm
end K23
namespace K23
open PySem PySem.Spec PyProof.Rows L2 FL
theorem turn_all {y v : Str} : ∀ {rs : List Rule}, (∀ r ∈ rs, fits r y = true → turnR r y = v) → ((∃ r ∈ rs, fits r y = true) ∨ v = y) → turn rs y = v
  | [], _, h => by
    rcases h with ⟨r, hr, _⟩ | h
    · cases hr
    · exact h.symm
  | r :: rs, h1, h2 => by
    show (if fits r y = true then turnR r y else turn rs y) = v
    by_cases q : fits r y = true
    · rw [if_pos q]
      exact h1 r List.mem_cons_self q
    · rw [if_neg q]
      refine turn_all (fun r' hr' => h1 r' (List.mem_cons_of_mem _ hr')) (h2.imp (fun ⟨r', hr', hf⟩ => ?_) id)
      rcases List.mem_cons.mp hr' with rfl | hr'
      · exact absurd hf q
      · exact ⟨r', hr', hf⟩
theorem front_turn {l y new : Str} : ls (turnR ⟨true, l, new⟩ y) = ls new ++ (ls y).drop (ls l).length := by
  show ls (new ++ cutS y (some (l.length : Int)) none) = _
  rw [ls_app, cut_drop, str_len]
/-- what a relay's cells make, in any sequence, also without those that change nothing, is alike to it -/
theorem cells_alike {z : Str} {rs cs rs' : List Rule} (t : TabIs z rs cs) (h1 : ∀ r ∈ rs', r ∈ cs) (h2 : ∀ c ∈ cs, c.old ≠ c.new → c ∈ rs') : Alike z rs rs' := by
  obtain ⟨us, hu, _, rfl⟩ := t
  intro y oy
  have fit1 : ∀ r ∈ cellsL z [rs] us, fits r y = true → turnR r y = turn rs y := by
    intro r hr hf
    obtain ⟨l, hl, rfl⟩ := List.mem_map.mp hr
    by_cases hlu : l ∈ us
    · have e : decide (l ∉ us) = false := decide_eq_false (by simpa using hlu)
      rw [e] at hf ⊢
      have ey : y = l := of_decide_eq_true hf
      rw [ey]
      rfl
    · have e : decide (l ∉ us) = true := decide_eq_true hlu
      rw [e] at hf ⊢
      obtain ⟨s, hs⟩ := (fits_front (r := ⟨true, l, thr [rs] l⟩) rfl).mp hf
      have hs' : ls l ++ s = ls y := hs
      have ev : Evn (ls z) (tL rs) (ls l) := Classical.byContradiction fun q => hlu ((hu.mem l).mpr q)
      apply ls_inj
      rw [front_turn, ← hs', List.drop_left, FL.turn_list, ← hs', ev s fun c hc => oy c (by show c ∈ ls y; rw [← hs']; exact List.mem_append_right _ hc)]
      show ls (turn rs l) ++ s = _
      rw [FL.turn_list]
  refine (turn_all (fun r hr => fit1 r (h1 r hr)) ?_).symm
  by_cases hex : ∃ r ∈ rs', fits r y = true
  · exact .inl hex
  · right
    have none_ : ∀ c ∈ cellsL z [rs] us, fits c y = true → c.old = c.new := fun c hc hf => Classical.byContradiction fun hne => hex ⟨c, h2 c hc hne, hf⟩
    rcases cell_of (z := ls z) (F := tL rs) _ (ls y) rfl oy with q | ⟨u, s, e, ev, hc⟩
    · have hyu : y ∈ us := (hu.mem y).mpr q
      have hm : (⟨decide (y ∉ us), y, thr [rs] y⟩ : Rule) ∈ cellsL z [rs] us := List.mem_map.mpr ⟨y, mem_ordL.mpr (mem_keys2.mpr (.inr (.inr hyu))), rfl⟩
      have hf : fits ⟨decide (y ∉ us), y, thr [rs] y⟩ y = true := by
        have e : decide (y ∉ us) = false := decide_eq_false (by simpa using hyu)
        rw [e]
        exact decide_eq_true rfl
      exact (none_ _ hm hf).symm
    · have hmem : st u ∈ keys2 z us := by
        rw [mem_keys2]
        rcases hc with q | q | ⟨u', c, hcz, q, hu'⟩
        · exact .inl (ls_inj (by rw [show ls (st u) = u from rfl, q]; decide +kernel))
        · exact absurd ev q
        · exact .inr (.inl ⟨st u', (hu.mem _).mpr hu', c, hcz, ls_inj (by rw [ls_sg]; exact q)⟩)
      have hnu : st u ∉ us := fun q => (hu.mem _).mp q ev
      have hm : (⟨decide (st u ∉ us), st u, thr [rs] (st u)⟩ : Rule) ∈ cellsL z [rs] us := List.mem_map.mpr ⟨st u, mem_ordL.mpr hmem, rfl⟩
      have hd : decide (st u ∉ us) = true := decide_eq_true hnu
      have hf : fits ⟨decide (st u ∉ us), st u, thr [rs] (st u)⟩ y = true := by
        rw [hd]
        refine (fits_front (r := ⟨true, st u, thr [rs] (st u)⟩) rfl).mpr ?_
        show u <+: ls y
        rw [e]
        exact List.prefix_append _ _
      have e3 : st u = turn rs (st u) := none_ _ hm hf
      apply ls_inj
      rw [FL.turn_list, e, ev s fun c hc => oy c (by show c ∈ ls y; rw [e]; exact List.mem_append_right _ hc)]
      have e4 := congrArg ls e3
      rw [FL.turn_list] at e4
      rw [← e4]
theorem keys2_len {z : Str} {us : List Str} (hz : z.length ≤ 4) : (keys2 z us).length ≤ 1 + 5 * us.length := by
  have h1 : (keys2 z us).length ≤ (keys1 z us).length + us.length := adds_len
  have h2 : (keys1 z us).length ≤ 1 + 4 * us.length := keys1_len_ hz
  omega
end K23
namespace K23
open PySem PySem.Spec PyProof.Rows L2 FL
/-- the same items in another sequence -/
def spMixedP (K : PySem.W.Frag) : Sp := fun vs H Q _ => ∃ (p q : Addr) (xs : List V), vs = [.ref p, .ref q] ∧ PotAt H p ∧ SqL K H q xs ∧ q ≠ p ∧ xs.length ≤ 1000 ∧
  ∀ (D : Addr) (ys : List V) (H' : Hp), ys.Perm xs → H D = none → H' D = some (.lst ys) → PotAt H' p → But p H H' → Q (.ref D) H'
theorem mixed_of {P : Program} {w : World} {K : PySem.W.Frag} {mg : Str → Option Value} {base : Heap} {f : Addr} {fd : FuncData} {k : Nat} (F : FnOk P w K mg base CX0 k f fd ["_law_pot_here", "_law_some"] (spMixedP K)) :
    FnOk P w K mg base CX0 k f fd ["_law_pot_here", "_law_some"] (spMixed K) := F.imp fun vs H Q E h => by
  obtain ⟨p, q, xs, e, h1, h2, h3, h4, h5⟩ := h
  exact ⟨p, q, xs, e, h1, h2, h3, h4, fun D ys H' pm => h5 D ys H' (fun y hy => pm.mem_iff.mp hy) pm.length_eq⟩
section
variable {P : Program} {w : World} {K : PySem.W.Frag} {mg : Str → Option Value} {base : Heap}
theorem scMixedP : FnScope ["_law_pot_here", "_law_some", "_law_pack", "_law_turn_here"] ["_law_pot_here", "_law_some"] (defScope sMixed) :=
  ⟨rfl, rfl, rfl, by decide +kernel, rfl, by decide +kernel, by decide +kernel⟩
theorem ok_mixedP {f g : Addr} {fd gd : FuncData} (F : Fun K "_law_mixed" "_law_mixed" sMixed f fd)
    (G : FnOk P w K mg base CX0 1 g gd ["_law_pot_here", "_law_much"] spDraw) (bG : Binds K gd ["_law_pot_here", "_law_much"] [])
    (kG : PySem.W.keepIn K (.ref g) = true) (mG : mg "_law_draw" = some (.ref g))
    (mL : mg "list" = none) (mN : mg "len" = none) (mR : mg "range" = none) :
    FnOk P w K mg base CX0 2 f fd ["_law_pot_here", "_law_some"] (spMixedP K) := by
  refine F.ok scMixedP (fun vs H Q E h => ?_) (fun cdv A outer s H vs Q E hr h => ?_)
  · obtain ⟨_, _, _, rfl, _⟩ := h
    rfl
  · obtain ⟨p, q, xs, rfl, hp, hq, nq, lx, k⟩ := h
    refine ⟨_, pss_cons (ps_set (i := 2) scMixedP.nd rfl (.inr rfl) (pe_callTy call_list_of (by rfl) mL (by decide +kernel) (pa_cons (pv 1) pa_nil)))
      (pss_one (ps_ret (pe_lc (own := [("_law_turn_here", 3)]) (g := gName 3) (tt := tYes) (te := tBM K "list" rPopAt (tVar 2) (tCons (tCall spDraw [] E0 (tCons (tVar 0) (tCons (tCB (FL.rLen K) (tCons (tVar 2) tNil)) tNil))) tNil)) rfl scMixedP.nd
        (pi_range1 (by rfl) mR (pa_cons (pe_callB callLen (by rfl) mN PySem.boot_len (pa_cons (pv 1) pa_nil)) pa_nil))
        (blkOk_by (N := ["_law_pot_here", "_law_some", "_law_pack", "_law_turn_here"]) (sc := defScope sMixed) (by decide +kernel))
        (fun _ _ _ _ _ => pg_name (i := 3) scMixedP.nd rfl (Or.inl rfl)) (fun _ _ _ _ _ => pts_nil)
        (fun _ _ _ _ _ => pe_bm PySem.F.plainAttrs_list PySem.F.slot_list_pop PySem.F.type_list_pop mtPopAt (pv 2)
          (pa_cons (pe_call G hr (by rfl) mG kG bG .nil pass0 (pa_cons (pv 0) (pa_cons (pe_callB callLen (by rfl) mN PySem.boot_len (pa_cons (pv 2) pa_nil)) pa_nil))) pa_nil))))), ?_⟩
    refine ⟨_, rfl, q, xs, rfl, .inl hq, fun B hB => ?_⟩
    have npB : p ≠ B := hp.ne hB
    refine ⟨_, rfl, _, xs.length, rfl, .inl ⟨_, sqL_upd hq hB, rfl⟩, (xs.length : Int), rfl, by omega, by omega, fun D hD => ?_⟩
    have hDB : D ≠ B := fun e => by
      rw [e, upd_same] at hD
      cases hD
    have hD0 : H D = none := by
      rw [upd_ne hDB] at hD
      exact hD
    have npD : p ≠ D := hp.ne hD0
    refine lc_range (lo := 0) (n := ((xs.length : Nat) : Int).toNat) (fun i Hi => PotAt Hi p ∧ But p H Hi ∧ ∃ rest acc : List V, Hi B = some (.lst rest) ∧ Hi D = some (.lst acc)
      ∧ acc.length = i ∧ rest.length + i = xs.length ∧ (rest ++ acc).Perm xs) ?_ ?_ ?_
    · refine ⟨(hp.upd npB).upd npD, ((But.refl p H).upd hB).upd hD0, xs, [], ?_, upd_same, rfl, rfl, by rw [List.append_nil]⟩
      rw [upd_ne (Ne.symm hDB), upd_same]
    · rintro i Hi hi ⟨hpi, bi, rest, acc, hr1, ha, l1, l2, pm⟩
      refine ⟨rfl, ?_⟩
      refine ⟨_, rfl, .inl ⟨rfl, _, SqL.of hr1⟩, _, rfl, _, rfl, _, rest.length, rfl, .inl ⟨_, SqL.of hr1, rfl⟩, p, (rest.length : Int), rfl, hpi, by omega, by omega, fun d H2 d0 d1 hp2 b2 => ?_⟩
      have hB2 := b2 B _ hr1 (Ne.symm npB)
      have hD2 := b2 D _ ha (Ne.symm npD)
      have hlt : d.toNat < rest.length := by omega
      refine ⟨B, rest, d, d.toNat, rest[d.toNat], rfl, rfl, hB2, by omega, by omega, seqIx d0 d1, List.getElem?_eq_getElem hlt, ?_⟩
      refine ⟨acc, by rw [upd_ne hDB]; exact hD2, ?_, ?_, ?_, rest.eraseIdx d.toNat, acc ++ [rest[d.toNat]], ?_, upd_same, ?_, ?_, ?_⟩
      · exact Nat.lt_of_lt_of_le (show acc.length < 2000 by omega) (by decide)
      · exact (hp2.upd npB).upd npD
      · exact ((bi.trans b2).upd hB).upd hD0
      · rw [upd_ne (Ne.symm hDB), upd_same]
      · rw [List.length_append, l1]
        rfl
      · rw [List.length_eraseIdx_of_lt hlt]
        omega
      · have q1 : (rest.eraseIdx d.toNat ++ (acc ++ [rest[d.toNat]])).Perm (rest[d.toNat] :: (rest.eraseIdx d.toNat ++ acc)) := by
          rw [← List.append_assoc]
          exact List.perm_append_singleton _ _
        exact q1.trans (((perm_erase rest d.toNat hlt).append_right acc).trans pm)
    · rintro Hi ⟨hpi, bi, rest, acc, hr1, ha, l1, l2, pm⟩
      have e0 : rest = [] := List.eq_nil_of_length_eq_zero (by omega)
      rw [e0, List.nil_append] at pm
      exact k D acc Hi pm hD0 ha hpi bi
end
end K23
namespace K23
open PySem PySem.Spec PyProof.Rows L2 FL
theorem paired_perm {α β : Type} {R : α → β → Prop} {xs ys : List α} (p : xs.Perm ys) : ∀ {cs : List β}, Paired R ys cs → ∃ ds, Paired R xs ds ∧ ds.Perm cs := by
  induction p with
  | nil => exact fun h => ⟨_, h, List.Perm.refl _⟩
  | cons x _ ih =>
    intro cs h
    cases h with
    | cons a b =>
      obtain ⟨ds, h1, h2⟩ := ih b
      exact ⟨_ :: ds, .cons a h1, h2.cons _⟩
  | swap x y l =>
    intro cs h
    cases h with
    | cons a b =>
      cases b with
      | cons b c => exact ⟨_, .cons b (.cons a c), List.Perm.swap _ _ _⟩
  | trans _ _ ih1 ih2 =>
    intro cs h
    obtain ⟨ds, h1, h2⟩ := ih2 h
    obtain ⟨es, h3, h4⟩ := ih1 h1
    exact ⟨es, h3, h4.trans h2⟩
/-- one of the relays that are alike to one -/
def Mate (C : Addr) (H : Hp) (z : Str) (rs : List Rule) (v : V) : Prop := ∃ a rs', v = .ref a ∧ RelayAt C H a z rs' ∧ ROk z rs' ∧ Alike z rs rs'
theorem Mate.same {C : Addr} {H H' : Hp} {z : Str} {rs : List Rule} {v : V} (h : Mate C H z rs v) (s : Same H H') : Mate C H' z rs v := by
  obtain ⟨a, rs', e, h1, h2, h3⟩ := h
  exact ⟨a, rs', e, h1.same s, h2, h3⟩
theorem Alike.trans {z : Str} {a b c : List Rule} (h1 : Alike z a b) (h2 : Alike z b c) : Alike z a c := fun y o => (h1 y o).trans (h2 y o)
theorem relay_updM {C : Addr} {H : Hp} {a x ML : Addr} {z : Str} {rs' : List Rule} {l : List V} {o : HO} (h : RelayAt C H a z rs') (hM : H ML = some (.lst (V.ref x :: l))) (hx : ∃ dx fs, H x = some (.ins C dx fs)) : RelayAt C (upd H ML o) a z rs' := by
  obtain ⟨dx, ra, ia, xs, h1, h2, h3, kvs, h4, h5, h6⟩ := h
  have tups : ∀ t b, H t = some (.tup b) → upd H ML o t = some (.tup b) := fun t b e => by
    rw [upd_ne (ne_of e hM (by intro q; cases q))]
    exact e
  have nra : ra ≠ ML := fun e => by
    rw [e, hM] at h2
    have e2 := (HO.lst.inj (Option.some.inj h2)).symm
    rw [e2] at h3
    cases h3 with
    | cons u _ =>
      obtain ⟨t, e3, e4⟩ := u
      obtain ⟨dx', fs', e5⟩ := hx
      cases e3
      rw [e5] at e4
      cases e4
  exact ⟨dx, ra, ia, xs, by rw [upd_ne (ne_of h1 hM (by intro q; cases q))]; exact h1, by rw [upd_ne nra]; exact h2, RulesAt.imp h3 tups, kvs, by rw [upd_ne (ne_of h4 hM (by intro q; cases q))]; exact h4, h5, h6.imp tups⟩
end K23
namespace K23
open PySem PySem.Spec PyProof.Rows L2 FL
/-! ### the law's own cells -/
noncomputable def dec (p : Prop) : Bool := @decide p (Classical.propDecidable p)
theorem dec_t {p : Prop} (h : p) : dec p = true := @decide_eq_true p (Classical.propDecidable p) h
theorem dec_f {p : Prop} (h : ¬ p) : dec p = false := @decide_eq_false p (Classical.propDecidable p) h
theorem dec_iff {p : Prop} : dec p = true ↔ p := @decide_eq_true_iff p (Classical.propDecidable p)
noncomputable def evnB (z : Str) (rss : List (List Rule)) (y : Str) : Bool := dec (Evn (ls z) (tLs rss) (ls y))
noncomputable def isCell (z : Str) (rss : List (List Rule)) (y : Str) : Bool := dec (Cell (ls z) (tLs rss) (ls y))
noncomputable def lawCell (z : Str) (rss : List (List Rule)) (y : Str) : Rule := ⟨evnB z rss y, y, thr rss y⟩
noncomputable def lawCells (z : Str) (rss : List (List Rule)) (N : List Str) : List Rule := (N.filter (isCell z rss)).map (lawCell z rss)
theorem lawCells_eq {z : Str} {rss : List (List Rule)} {N us : List Str} (h : Bfs z rss N N.length) (nd : us.Nodup) (hu : ∀ u, u ∈ us ↔ ¬ Evn (ls z) (tLs rss) (ls u)) (ho : ∀ u ∈ us, Over z u) :
    cellsL z rss us = lawCells z rss N := by
  have hsg : ∀ (u : Str) (c : Nat), u ++ sg c = u ++ sg1 c := fun _ _ => rfl
  have em : Over z (Str.ofString "") := fun c hc => by
    rw [show (Str.ofString "").cps.toList = [] by decide +kernel] at hc
    cases hc
  have e1 : ordL (keys2 z us) = N.filter (isCell z rss) := by
    refine ordL_is (nd_keys2 z us) ((nodup_of_lt h.srt).filter _) ((h.srt.filter _).imp fun {a b} q => lineLt_le q) fun b => ?_
    rw [mem_keys2, List.mem_filter]
    unfold isCell
    rw [dec_iff]
    constructor
    · rintro (q | ⟨u, hu', c, hc, q⟩ | q)
      · have hcell : Cell (ls z) (tLs rss) (ls b) := .inl (by rw [q]; decide +kernel)
        exact ⟨h.cells (by rw [q]; exact em) hcell, hcell⟩
      · have hcell : Cell (ls z) (tLs rss) (ls b) := .inr (.inr ⟨ls u, c, hc, by rw [q, ls_sg], (hu u).mp hu'⟩)
        exact ⟨h.cells (by rw [q]; exact over_app (ho u hu') (over_one hc)) hcell, hcell⟩
      · have hcell : Cell (ls z) (tLs rss) (ls b) := .inr (.inl ((hu b).mp q))
        exact ⟨h.cells (ho b q) hcell, hcell⟩
    · rintro ⟨_, q | q | ⟨u, c, hc, q, hv⟩⟩
      · exact .inl (ls_inj (by rw [q]; decide +kernel))
      · exact .inr (.inr ((hu b).mpr q))
      · exact .inr (.inl ⟨st u, (hu _).mpr hv, c, hc, ls_inj (by rw [q, ls_sg])⟩)
  unfold cellsL lawCells
  rw [e1]
  refine List.map_congr_left fun l _ => ?_
  unfold lawCell evnB
  have : decide (l ∉ us) = dec (Evn (ls z) (tLs rss) (ls l)) := by
    by_cases q : Evn (ls z) (tLs rss) (ls l)
    · rw [dec_t q]
      exact decide_eq_true (fun m => (hu l).mp m q)
    · rw [dec_f q]
      exact decide_eq_false (fun m => m ((hu l).mpr q))
  rw [this]
theorem tab_law {z : Str} {rs cs : List Rule} {N : List Str} (hov : ∀ r ∈ rs, Over z r.old) (h : Bfs z [rs] N N.length) (t : TabIs z rs cs) : cs = lawCells z [rs] N := by
  obtain ⟨us, h1, _, rfl⟩ := t
  exact lawCells_eq h h1.nd (fun u => h1.mem u) fun u hu => asked_over hov ((h1.mem u).mp hu)
/-! ### how the law finds which lines are even -/
def lastOk (rss : List (List Rule)) (y x : Str) (c : Nat) : Prop := thr rss x = thr rss y ++ sg1 c
theorem evn_kids {z : Str} {rss : List (List Rule)} {y : Str} : Evn (ls z) (tLs rss) (ls y) ↔ ∀ c ∈ ls z, Evn (ls z) (tLs rss) (ls (y ++ sg1 c)) ∧ thr rss (y ++ sg1 c) = thr rss y ++ sg1 c := by
  rw [evn_step]
  refine forall_congr' fun c => forall_congr' fun _ => ?_
  rw [ls_sg1]
  refine and_congr Iff.rfl ?_
  constructor
  · intro h
    apply ls_inj
    rw [ls_sg1, thr_list, thr_list, ls_sg1]
    exact h
  · intro h
    have := congrArg ls h
    rw [ls_sg1, thr_list, thr_list, ls_sg1] at this
    exact this
/-- a line's fellows are told of -/
theorem evn_of_kids {z : Str} {rss : List (List Rule)} {y : Str} {b : Bool} (h : b = true ↔ ∀ x ∈ kids z rss y, ∀ c, x = y ++ sg1 c → evnB z rss x = true ∧ thr rss x = thr rss y ++ sg1 c) : b = evnB z rss y := by
  have key : b = true ↔ Evn (ls z) (tLs rss) (ls y) := by
    rw [h]
    cases e : shortB rss y with
    | false =>
      refine ⟨fun _ => far_evn e, fun _ x hx => ?_⟩
      rw [(mem_kids.mp hx).1] at e
      cases e
    | true =>
      rw [evn_kids]
      constructor
      · intro q c hc
        obtain ⟨q1, q2⟩ := q _ (mem_kids.mpr ⟨e, c, hc, rfl⟩) c rfl
        exact ⟨dec_iff.mp q1, q2⟩
      · intro q x hx c ex
        obtain ⟨_, d, hd, ex2⟩ := mem_kids.mp hx
        have hcd : c = d := by
          have := congrArg ls (ex.symm.trans ex2)
          rw [ls_sg1, ls_sg1] at this
          exact List.singleton_inj.mp (List.append_cancel_left this)
        subst hcd
        subst ex
        exact ⟨dec_t (q c hd).1, (q c hd).2⟩
  unfold evnB
  cases b with
  | true => exact (dec_t (key.mp rfl)).symm
  | false => exact (dec_f fun q => by cases key.mpr q).symm
/-- in the sequence of lines: what waits when a line comes -/
def Waits (z : Str) (rss : List (List Rule)) (M : List Str) (x : Str) : Prop := x = Str.ofString "" ∨ ∃ u ∈ M, isCell z rss u = true ∧ evnB z rss u = false ∧ x ∈ kids z rss u
theorem waits_cell {z : Str} {rss : List (List Rule)} {N : List Str} {k : Nat} {y : Str} (h : Bfs z rss N N.length) (hy : N[k]? = some y) : Waits z rss (N.take k) y ↔ isCell z rss y = true := by
  have hm : y ∈ N := List.mem_of_getElem? hy
  have hyk := (List.getElem?_eq_some_iff.mp hy).2
  have hk := (List.getElem?_eq_some_iff.mp hy).1
  unfold isCell
  rw [dec_iff]
  constructor
  · rintro (q | ⟨u, hu, _, hv, hx⟩)
    · exact .inl (by rw [q]; decide +kernel)
    · obtain ⟨_, c, hc, q⟩ := mem_kids.mp hx
      refine .inr (.inr ⟨ls u, c, hc, by rw [q, ls_sg1], fun e => ?_⟩)
      unfold evnB at hv
      rw [dec_t e] at hv
      cases hv
  · intro hc
    rcases h.mem.mp hm with q | ⟨u, hu, hs, c, hcz, q⟩
    · exact .inl q
    · rw [List.take_length] at hu
      have hvu : ¬ Evn (ls z) (tLs rss) (ls u) := by
        rcases hc with e | e | ⟨u', c', _, e, hv⟩
        · rw [q, ls_sg1] at e
          exact absurd e (by simp)
        · exact fun ev => e (by
            rw [q, ls_sg1]
            exact ev.down fun d hd => by rw [List.mem_singleton.mp hd]; exact hcz)
        · rw [q, ls_sg1] at e
          obtain ⟨e1, _⟩ := List.append_inj' e rfl
          rw [e1]
          exact hv
      refine .inr ⟨u, ?_, dec_t (.inr (.inl hvu)), dec_f hvu, mem_kids.mpr ⟨hs, c, hcz, q⟩⟩
      obtain ⟨i, hi, hie⟩ := List.mem_iff_getElem.mp hu
      refine List.mem_take_iff_getElem.mpr ⟨i, ?_, hie⟩
      have l1 : y.length = u.length + 1 := by rw [q, sg1_len]
      have : i < k := by
        refine Classical.byContradiction fun hik => ?_
        by_cases e : i = k
        · subst e
          rw [hie] at hyk
          rw [hyk] at l1
          omega
        · have := lineLt_len (List.pairwise_iff_getElem.mp h.srt k i hk hi (by omega))
          rw [hyk, hie] at this
          omega
      omega
theorem waits_snoc {z : Str} {rss : List (List Rule)} {M : List Str} {y x : Str} (hc : isCell z rss y = true) (hv : evnB z rss y = false) : Waits z rss (M ++ [y]) x ↔ Waits z rss M x ∨ x ∈ kids z rss y := by
  unfold Waits
  constructor
  · rintro (q | ⟨u, hu, q1, q2, q3⟩)
    · exact .inl (.inl q)
    · rcases List.mem_append.mp hu with q | q
      · exact .inl (.inr ⟨u, q, q1, q2, q3⟩)
      · rw [List.mem_singleton.mp q] at q3
        exact .inr q3
  · rintro ((q | ⟨u, hu, q⟩) | q)
    · exact .inl q
    · exact .inr ⟨u, List.mem_append_left _ hu, q⟩
    · exact .inr ⟨y, List.mem_append_right _ (List.mem_singleton.mpr rfl), hc, hv, q⟩
theorem waits_skip {z : Str} {rss : List (List Rule)} {M : List Str} {y x : Str} (hn : ¬ (isCell z rss y = true ∧ evnB z rss y = false)) : Waits z rss (M ++ [y]) x ↔ Waits z rss M x := by
  unfold Waits
  constructor
  · rintro (q | ⟨u, hu, q1, q2, q3⟩)
    · exact .inl q
    · rcases List.mem_append.mp hu with q | q
      · exact .inr ⟨u, q, q1, q2, q3⟩
      · rw [List.mem_singleton.mp q] at q1 q2
        exact absurd ⟨q1, q2⟩ hn
  · rintro (q | ⟨u, hu, q⟩)
    · exact .inl q
    · exact .inr ⟨u, List.mem_append_left _ hu, q⟩
/-- a line's fellows come behind it -/
theorem kid_after {z : Str} {rss : List (List Rule)} {N : List Str} {k : Nat} {y x : Str} (h : Bfs z rss N N.length) (hy : N[k]? = some y) (hx : x ∈ kids z rss y) : x ∈ N.drop (k + 1) := by
  have hyk := (List.getElem?_eq_some_iff.mp hy).2
  have hk := (List.getElem?_eq_some_iff.mp hy).1
  obtain ⟨hs, c, hc, q⟩ := mem_kids.mp hx
  have hm : x ∈ N := h.mem.mpr (.inr ⟨y, by rw [List.take_length]; exact List.mem_of_getElem? hy, hs, c, hc, q⟩)
  obtain ⟨i, hi, hie⟩ := List.mem_iff_getElem.mp hm
  have l1 : x.length = y.length + 1 := by rw [q, sg1_len]
  have hki : k < i := by
    refine Classical.byContradiction fun hik => ?_
    by_cases e : i = k
    · subst e
      rw [hie] at hyk
      rw [hyk] at l1
      omega
    · have := lineLt_len (List.pairwise_iff_getElem.mp h.srt i k hi hk (by omega))
      rw [hyk, hie] at this
      omega
  refine List.mem_iff_getElem.mpr ⟨i - (k + 1), by rw [List.length_drop]; omega, ?_⟩
  rw [List.getElem_drop, ← hie]
  congr 1
  omega
end K23
namespace K23
open PySem PySem.Spec PyProof.Rows L2 FL
abbrev sThr : Stmt := topS 60
abbrev sShort : Stmt := topS 62
abbrev sChanged : Stmt := topS 64
/-- lists of rules, one for each stage -/
structure Stg (K : PySem.W.Frag) (H : Hp) (S : Addr) (rss : List (List Rule)) : Prop where
  ex : ∃ ds : List Addr, SqL K H S (ds.map V.ref) ∧ Paired (fun d rs => ∃ xs, SqL K H d xs ∧ RulesAt H xs rs) ds rss
  few : rss.length ≤ 5
  rb : ∀ rs ∈ rss, ∀ r ∈ rs, r.old.length ≤ 100 ∧ r.new.length ≤ 100
theorem Stg.same {K : PySem.W.Frag} {H H' : Hp} {S : Addr} {rss : List (List Rule)} (h : Stg K H S rss) (s : Same H H') : Stg K H' S rss := by
  obtain ⟨⟨ds, h1, h2⟩, h3, h4⟩ := h
  exact ⟨⟨ds, s.sqL h1, paired_map h2 fun _ _ ⟨xs, q1, q2⟩ => ⟨xs, s.sqL q1, RulesAt.imp q2 fun t a e => s t _ e⟩⟩, h3, h4⟩
def spThr (K : PySem.W.Frag) : Sp := fun vs H Q _ => ∃ (S : Addr) (y : Str) (rss : List (List Rule)), vs = [.ref S, .str y] ∧ Stg K H S rss ∧ y.length ≤ 10000 ∧ Q (.str (thr rss y)) H
def spShort (K : PySem.W.Frag) : Sp := fun vs H Q _ => ∃ (S : Addr) (y : Str) (rss : List (List Rule)), vs = [.ref S, .str y] ∧ Stg K H S rss ∧ y.length ≤ 10000 ∧ Q (.bl (shortB rss y)) H
theorem short_cons {rss : List (List Rule)} {y : Str} : ∀ {i : Nat} {rs : List Rule}, rss[i]? = some rs → shortB (rss.drop i) y = (looksB rs y || shortB (rss.drop (i + 1)) (turn rs y)) := fun {i rs} h => by
  have hlt : i < rss.length := (List.getElem?_eq_some_iff.mp h).1
  have e : rss.drop i = rs :: rss.drop (i + 1) := by
    rw [List.drop_eq_getElem_cons hlt]
    congr 1
    exact (List.getElem?_eq_some_iff.mp h).2
  rw [e]
  rfl
def lookB (r : Rule) (y : Str) : Bool := decide (cutS r.old none (some ((y.length : Nat) : Int)) = y) && (!r.fr || decide (y.length < r.old.length))
theorem looks_cons {rs : List Rule} {y : Str} {i : Nat} {r : Rule} (h : rs[i]? = some r) : looksB (rs.drop i) y = (lookB r y || looksB (rs.drop (i + 1)) y) := by
  have hlt : i < rs.length := (List.getElem?_eq_some_iff.mp h).1
  have e : rs.drop i = r :: rs.drop (i + 1) := by
    rw [List.drop_eq_getElem_cons hlt]
    congr 1
    exact (List.getElem?_eq_some_iff.mp h).2
  rw [e]
  rfl
section
variable {P : Program} {w : World} {K : PySem.W.Frag} {mg : Str → Option Value} {base : Heap}
abbrev nThr : List Str := ["_law_stages", "_law_note_here", "_law_deals_here"]
theorem scThr : FnScope nThr ["_law_stages", "_law_note_here"] (defScope sThr) :=
  ⟨rfl, rfl, rfl, by decide +kernel, rfl, by decide +kernel, by decide +kernel⟩
theorem ok_thr {f : Addr} {fd : FuncData} (F : Fun K "_law_through" "_law_through" sThr f fd) (cT : Ca P w K mg base "_law_turn" 1 ["_law_deals_here", "_law_note_here"] (spTurn K)) :
    FnOk P w K mg base CX0 2 f fd ["_law_stages", "_law_note_here"] (spThr K) := by
  refine F.ok scThr (fun vs H Q E h => ?_) (fun cdv A outer s H vs Q E hr h => ?_)
  · obtain ⟨S, y, rss, rfl, _⟩ := h
    rfl
  · obtain ⟨S, y, rss, rfl, ⟨⟨ds, hS, hp⟩, few, rb⟩, ly, k⟩ := h
    have nd := scThr.nd
    refine ⟨_, pss_cons (ps_for PassesOwn.never rfl (pi_list (pv 0)) (pg_name (i := 2) nd rfl (.inl rfl))
        (pss_one (ps_set (i := 1) nd rfl (.inl rfl) (pe_ca cT hr (by rfl) (pa_cons (pv 2) (pa_cons (pv 1) pa_nil))))))
      (pss_one (ps_ret (pv 1))), ?_⟩
    have hlen : ds.length = rss.length := paired_len hp
    refine ⟨_, rfl, S, rfl, ⟨_, hS⟩, for_list (xs := ds.map V.ref) (fun j σ Hj => ∃ (o2 : Option V), σ = [some (.ref S), some (.str (thr (rss.take j) y)), o2] ∧ Hj = H) ?_ ?_ ?_ ?_⟩
    · exact ⟨none, rfl, rfl⟩
    · rintro j σ Hj _ ⟨_, rfl, rfl⟩
      exact hS
    · rintro j x σ Hj hx ⟨o2, rfl, rfl⟩
      rw [List.getElem?_map] at hx
      cases hd : ds[j]? with
      | none =>
        rw [hd] at hx
        cases hx
      | some d =>
        rw [hd] at hx
        obtain rfl : V.ref d = x := Option.some.inj hx
        obtain ⟨rs, hrs, xs, hxs, hru⟩ := L2.paired_get hp hd
        have rb1 := rb rs (List.mem_of_getElem? hrs)
        have hl : (thr (rss.take j) y).length ≤ y.length + (rss.take j).length * 100 := thr_len fun rs' h' r hr' => (rb rs' (List.mem_of_mem_take h') r hr').2
        have hj2 : (rss.take j).length ≤ 5 := by rw [List.length_take]; omega
        refine ⟨_, rfl, _, rfl, d, thr (rss.take j) y, xs, rs, rfl, hxs, hru, by omega, fun r hr' => ⟨by have := (rb1 r hr').1; omega, by have := (rb1 r hr').2; omega⟩, ?_⟩
        exact ⟨_, by rw [thr_take hrs]; rfl, rfl⟩
    · rintro σ Hj ⟨o2, rfl, rfl⟩
      have e : thr (rss.take (ds.map V.ref).length) y = thr rss y := by rw [List.take_of_length_le (by rw [List.length_map]; omega)]
      rw [e]
      exact ⟨_, rfl, k⟩
abbrev nShort : List Str := ["_law_stages", "_law_note_here", "_law_deals_here", "_law_kind", "_law_old", "_law_new"]
theorem scShort : FnScope nShort ["_law_stages", "_law_note_here"] (defScope sShort) :=
  ⟨rfl, rfl, rfl, by decide +kernel, rfl, by decide +kernel, by decide +kernel⟩
theorem ok_short {f : Addr} {fd : FuncData} (F : Fun K "_law_is_short" "_law_is_short" sShort f fd) (mN : mg "len" = none) (cT : Ca P w K mg base "_law_turn" 1 ["_law_deals_here", "_law_note_here"] (spTurn K)) :
    FnOk P w K mg base CX0 2 f fd ["_law_stages", "_law_note_here"] (spShort K) := by
  refine F.ok scShort (fun vs H Q E h => ?_) (fun cdv A outer s H vs Q E hr h => ?_)
  · obtain ⟨S, y, rss, rfl, _⟩ := h
    rfl
  · obtain ⟨S, y, rss, rfl, ⟨⟨ds, hS, hp⟩, few, rb⟩, ly, k⟩ := h
    have nd := scShort.nd
    have sz : sizeLine = 16777216 := rfl
    refine ⟨_, pss_cons (ps_for PassesOwn.never rfl (pi_list (pv 0)) (pg_name (i := 2) nd rfl (.inl rfl))
        (pss_cons (ps_for PassesOwn.never rfl (pi_list (pv 2))
          (pg_tup rfl (pgs_cons (pg_name (i := 3) nd rfl (.inl rfl)) (pgs_cons (pg_name (i := 4) nd rfl (.inl rfl)) (pgs_cons (pg_name (i := 5) nd rfl (.inl rfl)) pgs_nil))))
          (pss_one (ps_if (PW.pt (pw_and (pt_cmpR op_eq (pe_slice sl_str (pv 4) po_none (po_some (pe_callB callLen (by rfl) mN PySem.boot_len (pa_cons (pv 1) pa_nil)))) (pv 1) (nomark _))
              (pw_and1 (PW.pt (pw_or (pt_cmpR op_eq (pv 3) pe_str (nomark _)) (pw_or1 (pt_cmpR op_gt (pe_callB callLen (by rfl) mN PySem.boot_len (pa_cons (pv 4) pa_nil)) (pe_callB callLen (by rfl) mN PySem.boot_len (pa_cons (pv 1) pa_nil)) (nomark _))))))))
            (pss_one (ps_ret pe_bl)) pss_nil)))
        (pss_one (ps_set (i := 1) nd rfl (.inl rfl) (pe_ca cT hr (by rfl) (pa_cons (pv 2) (pa_cons (pv 1) pa_nil)))))))
      (pss_one (ps_ret pe_bl)), ?_⟩
    have hlen : ds.length = rss.length := paired_len hp
    refine ⟨_, rfl, S, rfl, ⟨_, hS⟩, for_list (xs := ds.map V.ref) (fun j σ Hj => ∃ (o2 o3 o4 o5 : Option V), σ = [some (.ref S), some (.str (thr (rss.take j) y)), o2, o3, o4, o5] ∧ Hj = H ∧ shortB rss y = shortB (rss.drop j) (thr (rss.take j) y)) ?_ ?_ ?_ ?_⟩
    · exact ⟨none, none, none, none, rfl, rfl, rfl⟩
    · rintro j σ Hj _ ⟨_, _, _, _, rfl, rfl, _⟩
      exact hS
    · rintro j x σ Hj hx ⟨o2, o3, o4, o5, rfl, rfl, hsh⟩
      rw [List.getElem?_map] at hx
      cases hd : ds[j]? with
      | none =>
        rw [hd] at hx
        cases hx
      | some d =>
        rw [hd] at hx
        obtain rfl : V.ref d = x := Option.some.inj hx
        obtain ⟨rs, hrs, xs, hxs, hru⟩ := L2.paired_get hp hd
        have rb1 := rb rs (List.mem_of_getElem? hrs)
        have hl : (thr (rss.take j) y).length ≤ y.length + (rss.take j).length * 100 := thr_len fun rs' h' r hr' => (rb rs' (List.mem_of_mem_take h') r hr').2
        have hj2 : (rss.take j).length ≤ 5 := by rw [List.length_take]; omega
        rw [short_cons hrs] at hsh
        generalize eyj : thr (rss.take j) y = yj at hsh hl ⊢
        have lyj : yj.length ≤ 10500 := by omega
        refine ⟨_, rfl, d, rfl, ⟨_, hxs⟩, for_list (xs := xs) (fun i σ Hi => ∃ (o3 o4 o5 : Option V), σ = [some (.ref S), some (.str yj), some (.ref d), o3, o4, o5] ∧ Hi = Hj ∧ looksB rs yj = looksB (rs.drop i) yj) ?_ ?_ ?_ ?_⟩
        · exact ⟨o3, o4, o5, rfl, rfl, rfl⟩
        · rintro i σ Hi _ ⟨_, _, _, rfl, rfl, _⟩
          exact hxs
        · rintro i x σ Hi hx ⟨o3, o4, o5, rfl, rfl, hlk⟩
          obtain ⟨r, hr', t, rfl, hT⟩ := L2.paired_get hru hx
          obtain ⟨l1, l2⟩ := rb1 r (List.mem_of_getElem? hr')
          rw [looks_cons hr'] at hlk
          refine ⟨t, _, rfl, SqT.of hT, rfl, _, _, rfl, _, _, rfl, _, _, rfl, rfl, ?_⟩
          refine ⟨_, rfl, _, rfl, _, yj.length, rfl, ⟨(by rw [sz]; omega), rfl⟩, _, rfl, r.old, rfl, (by rw [sz]; omega), _, rfl, rfl, _, rfl, ?_⟩
          have done : lookB r yj = true → Q (.bl true) Hi := fun e => by
            rw [e, Bool.true_or] at hlk
            rw [hlk, Bool.true_or] at hsh
            rw [← hsh]
            exact k
          have next : lookB r yj = false → looksB rs yj = looksB (rs.drop (i + 1)) yj := fun e => by
            rw [e, Bool.false_or] at hlk
            exact hlk
          by_cases hf : cutS r.old none (some (yj.length : Int)) = yj
          · rw [decide_eq_true (congrArg V.str hf)]
            refine iteT ?_
            refine ⟨_, rfl, rfl, _, rfl, ?_⟩
            cases hfr : r.fr with
            | false =>
              refine ite2 (fun _ => ?_) (fun h => absurd (decide_eq_true rfl) h)
              refine iteT ?_
              exact done (by unfold lookB; rw [decide_eq_true hf, hfr]; rfl)
            | true =>
              refine ite2 (fun h => absurd (of_decide_eq_true h) (strV_ne kd_ne)) (fun _ => ?_)
              refine ⟨_, rfl, _, r.old.length, rfl, ⟨(by rw [sz]; omega), rfl⟩, _, rfl, _, yj.length, rfl, ⟨(by rw [sz]; omega), rfl⟩, _, _, rfl, rfl, _, rfl, ?_⟩
              by_cases hlt : yj.length < r.old.length
              · rw [decide_eq_true (show ((r.old.length : Nat) : Int) > ((yj.length : Nat) : Int) by omega)]
                refine iteT ?_
                exact done (by unfold lookB; rw [decide_eq_true hf, decide_eq_true hlt, Bool.or_true]; rfl)
              · rw [decide_eq_false (show ¬ ((r.old.length : Nat) : Int) > ((yj.length : Nat) : Int) by omega)]
                refine iteF ?_
                exact ⟨_, _, _, rfl, rfl, next (by unfold lookB; rw [decide_eq_false hlt, hfr]; exact Bool.and_false _)⟩
          · rw [decide_eq_false (strV_ne hf)]
            refine iteF ?_
            exact ⟨_, _, _, rfl, rfl, next (by unfold lookB; rw [decide_eq_false hf]; rfl)⟩
        · rintro σ Hi ⟨o3, o4, o5, rfl, rfl, hlk⟩
          have e0 : looksB rs yj = false := by
            rw [hlk, paired_len hru, List.drop_length]
            rfl
          rw [e0, Bool.false_or] at hsh
          refine ⟨_, rfl, _, rfl, d, yj, xs, rs, rfl, hxs, hru, by omega, fun r hr' => ⟨by have := (rb1 r hr').1; omega, by have := (rb1 r hr').2; omega⟩, ?_⟩
          exact ⟨_, _, _, _, by rw [thr_take hrs, eyj]; rfl, rfl, by rw [thr_take hrs, eyj]; exact hsh⟩
    · rintro σ Hj ⟨o2, o3, o4, o5, rfl, rfl, hsh⟩
      have e : shortB rss y = false := by
        rw [hsh, List.length_map, hlen, List.drop_length]
        rfl
      rw [e] at k
      exact k
/-- the cells that change their line -/
def chg (cs : List Rule) : List Rule := cs.filter fun c => !decide (V.str c.old = V.str c.new)
def spChanged (K : PySem.W.Frag) : Sp := fun vs H Q _ => ∃ (D : Addr) (xs : List V) (cs : List Rule), vs = [.ref D] ∧ SqL K H D xs ∧ RulesAt H xs cs ∧ cs.length ≤ 100000 ∧
  ∀ (p : Addr) (ys : List V) (H' : Hp), Same H H' → H p = none → H' p = some (.lst ys) → RulesAt H' ys (chg cs) → Q (.ref p) H'
abbrev nChanged : List Str := ["_law_cards", "_law_card"]
theorem scChanged : FnScope nChanged ["_law_cards"] (defScope sChanged) :=
  ⟨rfl, rfl, rfl, by decide +kernel, rfl, by decide +kernel, by decide +kernel⟩
theorem ok_changed {f : Addr} {fd : FuncData} (F : Fun K "_law_changed" "_law_changed" sChanged f fd) :
    FnOk P w K mg base CX0 1 f fd ["_law_cards"] (spChanged K) := by
  refine F.ok scChanged (fun vs H Q E h => ?_) (fun cdv A outer s H vs Q E hr h => ?_)
  · obtain ⟨_, _, _, rfl, _⟩ := h
    rfl
  · obtain ⟨D, xs, cs, rfl, hD, hcs, lcs, k⟩ := h
    have nd := scChanged.nd
    have sz : sizeLine = 16777216 := rfl
    refine ⟨_, pss_one (ps_ret (pe_lc (own := [("_law_card", 1)]) (g := gName 1) (tt := tTest (tOp rNe (tOp (rIxT K) (tVar 1) (tC (.int 1))) (tOp (rIxT K) (tVar 1) (tC (.int 2))))) rfl nd (pi_list (pv 0))
          (blkOk_by (N := nChanged) (sc := defScope sChanged) (by decide +kernel)) (fun _ _ _ _ _ => pg_name (i := 1) nd rfl (Or.inl rfl))
          (fun _ _ _ _ _ => pts_one (pt_cmpR op_ne (pe_ix ix_tup (pv 1) pe_int (fun _ _ => rfl)) (pe_ix ix_tup (pv 1) pe_int (fun _ _ => rfl)) (nomark _)))
          (fun _ _ _ _ _ => pv 1))), ?_⟩
    refine ⟨_, rfl, D, rfl, ⟨_, hD⟩, fun C hC => ?_⟩
    refine lc_it (walk_list (xs := xs)) (fun j Hj => Same H Hj ∧ ∃ (ws : List V), Hj C = some (.lst ws) ∧ RulesAt Hj ws (chg (cs.take j))) ?_ ?_ ?_ ?_
    · exact ⟨(Same.refl H).upd hC, [], upd_same, by rw [List.take_zero]; exact .nil⟩
    · rintro j Hj _ ⟨sj, _⟩
      exact sj.sqL hD
    · rintro j xv Hj0 Hj hj ⟨sj, ws, hw, hrw⟩ ⟨rfl, hxj⟩
      obtain ⟨c, hc, t, rfl, hT⟩ := L2.paired_get (RulesAt.imp hcs fun t a e => sj t _ e) hxj
      have ef : chg (cs.take (j + 1)) = chg (cs.take j) ++ [c].filter (fun c => !decide (V.str c.old = V.str c.new)) := by unfold chg; rw [take_snoc hc, List.filter_append]
      have lws := paired_len hrw
      have lf : (chg (cs.take j)).length ≤ 100000 := Nat.le_trans (List.length_filter_le _ _) (by rw [List.length_take]; omega)
      refine ⟨rfl, _, rfl, t, ruleV c, 1, .str c.old, rfl, rfl, SqT.of hT, rfl, _, rfl, t, ruleV c, 2, .str c.new, rfl, rfl, SqT.of hT, rfl, rfl, _, rfl, ?_⟩
      cases hb : decide (V.str c.old = V.str c.new) with
      | true =>
        refine iteF ?_
        refine ⟨sj, ws, hw, ?_⟩
        rw [ef, List.filter_cons, hb, List.filter_nil]
        show RulesAt Hj ws (_ ++ [])
        rw [List.append_nil]
        exact hrw
      | false =>
        refine iteT ?_
        refine ⟨_, rfl, ws, hw, by rw [sz]; omega, ?_⟩
        refine ⟨sj.upd hC, ws ++ [.ref t], upd_same, ?_⟩
        rw [ef, List.filter_cons, hb, List.filter_nil]
        refine paired_snoc (RulesAt.imp hrw fun a b e => ?_) ⟨t, rfl, ?_⟩
        · rw [upd_ne (ne_of e hw (by intro q; cases q))]
          exact e
        · rw [upd_ne (ne_of hT hw (by intro q; cases q))]
          exact hT
    · rintro Hd ⟨sd, ws, hw, hrw⟩
      have etk : cs.take xs.length = cs := List.take_of_length_le (by rw [paired_len hcs]; exact Nat.le_refl _)
      rw [etk] at hrw
      exact k C ws Hd sd hC hw hrw
end
end K23
namespace K23
open PySem PySem.Spec PyProof.Rows L2 FL
abbrev sLawCells : Stmt := topS 63
/-- the dict of what stands behind each line looked at -/
structure Beh (z : Str) (rss : List (List Rule)) (H : Hp) (B L : Addr) (M : List Str) : Prop where
  ex : ∃ kvs, H B = some (.dK kvs) ∧ KeysOf kvs M ∧ ∀ y ∈ M, ∃ a, valV kvs (Sum.inr y : Key) = some (.ref a) ∧ H a = some (.lst ((kids z rss y).map V.str)) ∧ a ≠ L
theorem Beh.same {z : Str} {rss : List (List Rule)} {H H' : Hp} {B L : Addr} {M : List Str} (h : Beh z rss H B L M) (s : Same H H') : Beh z rss H' B L M := by
  obtain ⟨kvs, h1, h2, h3⟩ := h.ex
  refine ⟨kvs, s _ _ h1, h2, fun y hy => ?_⟩
  obtain ⟨a, q1, q2, q3⟩ := h3 y hy
  exact ⟨a, q1, s _ _ q2, q3⟩
/-- a dict that tells g of each line of M -/
def Tells (H : Hp) (D : Addr) (g : Str → V) (M : List Str) (n : Nat) : Prop := ∃ kvs ks, H D = some (.dK kvs) ∧ KeysOf kvs ks ∧ ks.length ≤ n ∧ ∀ y ∈ M, valV kvs (Sum.inr y : Key) = some (g y)
theorem Tells.same {H H' : Hp} {D : Addr} {g : Str → V} {M : List Str} {n : Nat} (h : Tells H D g M n) (s : Same H H') : Tells H' D g M n := by
  obtain ⟨kvs, ks, h1, h2⟩ := h
  exact ⟨kvs, ks, s _ _ h1, h2⟩
theorem merge_tells {g : Str → V} : ∀ {ms : List Str} {kvs : List (Key × V)} {ks : List Str}, KeysOf kvs ks → (∀ y ∈ ks, valV kvs (Sum.inr y : Key) = some (g y)) →
    ∃ ks', KeysOf (mergeK kvs (ms.map fun y => ((Sum.inr y : Key), g y))) ks' ∧ (∀ y, y ∈ ks' ↔ y ∈ ks ∨ y ∈ ms) ∧ (∀ y ∈ ks', valV (mergeK kvs (ms.map fun y => ((Sum.inr y : Key), g y))) (Sum.inr y : Key) = some (g y)) ∧ ks'.length ≤ ks.length + ms.length
  | [], kvs, ks, h1, h2 => ⟨ks, h1, fun y => ⟨.inl, fun q => q.elim id fun q => (nomatch q)⟩, h2, Nat.le_refl _⟩
  | m :: ms, kvs, ks, h1, h2 => by
    obtain ⟨ks', q1, q2, q3, q4⟩ := merge_tells (g := g) (ms := ms) (h1.put m (g m)) (fun y hy => by
      rw [L2.valV_put]
      by_cases e : (Sum.inr y : Key) = Sum.inr m
      · rw [if_pos e, Sum.inr.inj e]
      · rw [if_neg e]
        rcases mem_addB.mp hy with q | q
        · exact h2 y q
        · exact absurd (congrArg Sum.inr q) e)
    refine ⟨ks', q1, fun y => ?_, q3, ?_⟩
    · rw [q2, mem_addB, List.mem_cons, or_assoc]
    · have := addB_len ks m
      rw [List.length_cons]
      omega
def muV (B : Nat) : Option (Option V) → Nat
  | some (some (.int k)) => B - k.toNat
  | _ => 0
def mu (B : Nat) : L2.St → Hp → Nat := fun σ _ => muV B ((show List (Option V) from σ)[4]?)
abbrev nLawCells : List Str := ["_law_abc_here", "_law_stages", "_law_notes_here", "_law_behind", "_law_at", "_law_note_here", "_law_image", "_law_even", "_law_far", "_law_found", "_law_waiting", "_law_letter"]
theorem scLawCells : FnScope nLawCells ["_law_abc_here", "_law_stages"] (defScope sLawCells) :=
  ⟨rfl, rfl, rfl, by decide +kernel, rfl, by decide +kernel, by decide +kernel⟩
/-- behind the while: all lines, and what stands behind each -/
def Mid1 (K : PySem.W.Frag) (z : Str) (S : Addr) (rss : List (List Rule)) (H : Hp) (B : Nat) (σ : L2.St) (H' : Hp) : Prop := ∃ (L D : Addr) (N : List Str) (k : Nat) (o5 o6 o7 o8 : Option V),
  σ = [some (.str z), some (.ref S), some (.ref L), some (.ref D), some (.int ((k : Nat) : Int)), o5, o6, o7, o8, none, none, none] ∧ Same H H' ∧ H L = none ∧ H D = none ∧ H' L = some (.lst (N.map V.str)) ∧ Bfs z rss N k ∧ Beh z rss H' D L (N.take k) ∧ N.length ≤ B
section
variable {P : Program} {w : World} {K : PySem.W.Frag} {mg : Str → Option Value} {base : Heap}
/-- one turn of the while -/
theorem kid_new {z : Str} {rss : List (List Rule)} {N : List Str} {k : Nat} {y : Str} (h : Bfs z rss N k) (hy : N[k]? = some y) : y ∉ N.take k := fun q => by
  obtain ⟨i, hi, hie⟩ := List.mem_take_iff_getElem.mp q
  have hk := (List.getElem?_eq_some_iff.mp hy).1
  have hyk := (List.getElem?_eq_some_iff.mp hy).2
  exact lineLt_ne (List.pairwise_iff_getElem.mp h.srt i k (by omega) hk (by omega)) (by rw [hie, hyk])
end
end K23
namespace K23
open PySem PySem.Spec PyProof.Rows L2 FL
def spLawCells (K : PySem.W.Frag) : Sp := fun vs H Q _ => ∃ (z : Str) (S : Addr) (rss : List (List Rule)) (B : Nat), vs = [.str z, .ref S] ∧ Abc z ∧ Stg K H S rss ∧ (∀ y, shortB rss y = true → y.length ≤ B) ∧ B ≤ 10 ∧
  ∀ (H' : Hp) (p : Addr) (xs : List V) (N : List Str), Same H H' → H p = none → H' p = some (.lst xs) → Bfs z rss N N.length → RulesAt H' xs (lawCells z rss N) → N.length ≤ 8400000 → Q (.ref p) H'
section
variable {P : Program} {w : World} {K : PySem.W.Frag} {mg : Str → Option Value} {base : Heap}
theorem ok_lawCells {f : Addr} {fd : FuncData} (F : Fun K "_law_cells" "_law_cells" sLawCells f fd) (mN : mg "len" = none) (mD : mg "dict" = none)
    (cS : Ca P w K mg base "_law_is_short" 2 ["_law_stages", "_law_note_here"] (spShort K)) (cT : Ca P w K mg base "_law_through" 2 ["_law_stages", "_law_note_here"] (spThr K)) :
    FnOk P w K mg base CX0 3 f fd ["_law_abc_here", "_law_stages"] (spLawCells K) := by
  refine F.ok scLawCells (fun vs H Q E h => ?_) (fun cdv A outer s H vs Q E hr h => ?_)
  · obtain ⟨_, _, _, _, rfl, _⟩ := h
    rfl
  · obtain ⟨z, S, rss, B, rfl, az, hS, hB, lB, k⟩ := h
    have nd := scLawCells.nd
    have hu := hu_of hr
    have sz : sizeLine = 16777216 := rfl
    refine ⟨_, pss_cons (ps_asg (pe_tup (pa_cons (pe_lst (pa_cons pe_str pa_nil)) (pa_cons pe_dnewK (pa_cons pe_int pa_nil)))) (pg_tup rfl (pgs_cons (pg_name (i := 2) nd rfl (.inr rfl)) (pgs_cons (pg_name (i := 3) nd rfl (.inl rfl)) (pgs_cons (pg_name (i := 4) nd rfl (.inr rfl)) pgs_nil)))))
      (C8.pss_cut (ps_while PassesOwn.never (pt_cmpR op_lt (pv 4) (pe_callB callLen (by rfl) mN PySem.boot_len (pa_cons (pv 2) pa_nil)) (nomark _))
        (pss_cons (ps_dput hu (pv 3) (pe_ix ix_list (pv 2) (pv 4) (fun _ _ => rfl)) (pe_lst pa_nil) rfl)
        (C8.pss_cut (ps_if (pt_val (pe_ca cS hr (by rfl) (pa_cons (pv 1) (pa_cons (pe_ix ix_list (pv 2) (pv 4) (fun _ _ => rfl)) pa_nil))))
          (pss_one (ps_dput hu (pv 3) (pe_ix ix_list (pv 2) (pv 4) (fun _ _ => rfl)) (pe_lc (own := [("_law_letter", 11)]) (g := gName 11) (tt := tYes) (te := tOp (fun x y H Q => ∃ i j, x = .str i ∧ y = .str j ∧ i.length + j.length ≤ sizeLine ∧ Q (.str (i ++ j)) H) (tOp (rIxL K) (tVar 2) (tVar 4)) (tVar 11)) rfl nd (pi_str (pv 0))
              (blkOk_by (N := nLawCells) (sc := defScope sLawCells) (by decide +kernel))
              (fun _ _ _ _ _ => pg_name (i := 11) nd rfl (Or.inl rfl)) (fun _ _ _ _ _ => pts_nil)
              (fun _ _ _ _ _ => pe_op op_add_str (pe_ix ix_list (pv 2) (pv 4) (fun _ _ => rfl)) (pv 11))) rfl)) pss_nil)
        (pss_cons (ps_expr (pe_bm PySem.F.plainAttrs_list PySem.F.slot_list_extend PySem.F.type_list_extend mtExtend (pv 2) (pa_cons (pe_dget hu (pv 3) (pe_ix ix_list (pv 2) (pv 4) (fun _ _ => rfl)) (fun _ _ => rfl)) pa_nil)))
        (pss_one (ps_set (i := 4) nd rfl (.inr rfl) (pe_op op_add (pv 4) pe_int)))))))
      (C8.pss_cut (ps_par (i := 6) (j := 7) (by rfl) nd rfl rfl (by decide) rfl rfl
        (pa_cons (pe_callTy (call_dictP rfl) (by rfl) mD (by decide +kernel) (pa_cons (pe_lc (own := [("_law_note_here", 5)]) (g := gName 5) (tt := tYes) (te := tTup (tCons (tVar 5) (tCons (tCall (spThr K) [] E0 (tCons (tVar 1) (tCons (tVar 5) tNil))) tNil))) rfl nd (pi_list (pv 2))
              (blkOk_by (N := nLawCells) (sc := defScope sLawCells) (by decide +kernel))
              (fun _ _ _ _ _ => pg_name (i := 5) nd rfl (Or.inl rfl)) (fun _ _ _ _ _ => pts_nil)
              (fun _ _ _ _ _ => pe_tup (pa_cons (pv 5) (pa_cons (pe_ca cT hr (by rfl) (pa_cons (pv 1) (pa_cons (pv 5) pa_nil))) pa_nil)))) pa_nil))
          (pa_cons pe_dnewK pa_nil)) (by rfl))
      (C8.pss_cut (ps_for PassesOwn.never rfl (pi_list (pe_revL (pv 2))) (pg_name (i := 5) nd rfl (.inl rfl))
        (pss_cons (ps_dput hu (pv 7) (pv 5) pe_bl rfl)
        (pss_one (ps_for PassesOwn.never rfl (pi_list (pe_dget hu (pv 3) (pv 5) (fun _ _ => rfl))) (pg_name (i := 8) nd rfl (.inl rfl))
          (pss_one (ps_if (PW.pt (pw_or (pt_not (pt_val (pe_dget hu (pv 7) (pv 8) (fun _ _ => rfl)))) (pw_or1 (pt_cmpR op_ne (pe_dget hu (pv 6) (pv 8) (fun _ _ => rfl))
              (pe_op op_add_str (pe_dget hu (pv 6) (pv 5) (fun _ _ => rfl)) (pe_ix ix_str (pv 8) (pe_un un_neg pe_int) (fun _ _ => rfl))) (nomark _)))))
            (pss_one (ps_dput hu (pv 7) (pv 5) pe_bl rfl)) pss_nil))))))
      (pss_cons (ps_par (i := 9) (j := 10) (by rfl) nd rfl rfl (by decide) rfl rfl
        (pa_cons (pe_lst pa_nil) (pa_cons (pe_disp (pps_cons pe_str pe_bl pps_nil) (by rfl) (by rfl) (fun z => by cases z) (by decide)) pa_nil)) (by rfl))
      (pss_cons (ps_for PassesOwn.never rfl (pi_list (pv 2)) (pg_name (i := 5) nd rfl (.inl rfl))
        (pss_one (ps_if (pt_cmp (pc_din hu (pv 5) (pv 10)))
          (pss_cons (ps_expr (pe_bm PySem.F.plainAttrs_list PySem.F.slot_list_append PySem.F.type_list_append mtAppend (pv 9)
            (pa_cons (pe_tup (pa_cons (pe_ifExp (pt_val (pe_dget hu (pv 7) (pv 5) (fun _ _ => rfl))) pe_str pe_str) (pa_cons (pv 5) (pa_cons (pe_dget hu (pv 6) (pv 5) (fun _ _ => rfl)) pa_nil)))) pa_nil)))
          (pss_one (ps_if (pt_not (pt_val (pe_dget hu (pv 7) (pv 5) (fun _ _ => rfl))))
            (pss_one (ps_expr (pe_bm PySem.F.plainAttrs_dict PySem.F.slot_dict_update PySem.F.type_dict_update mtd_update (pv 10)
              (pa_cons (pe_callTy (call_dictP rfl) (by rfl) mD (by decide +kernel) (pa_cons (pe_lc (own := [("_law_far", 8)]) (g := gName 8) (tt := tYes) (te := tTup (tCons (tVar 8) (tCons (tC (.bl true)) tNil))) rfl nd (pi_list (pe_dget hu (pv 3) (pv 5) (fun _ _ => rfl)))
                (blkOk_by (N := nLawCells) (sc := defScope sLawCells) (by decide +kernel))
                (fun _ _ _ _ _ => pg_name (i := 8) nd rfl (Or.inl rfl)) (fun _ _ _ _ _ => pts_nil)
                (fun _ _ _ _ _ => pe_tup (pa_cons (pv 8) (pa_cons pe_bl pa_nil)))) pa_nil)) pa_nil)))) pss_nil))) pss_nil)))
      (pss_one (ps_ret (pv 9)))))))), ?_⟩
    -- the start
    refine ⟨(by show 1 ≤ sizeLine; decide), fun L hL => ?_⟩
    intro D hD
    have s1 : Same H (upd H L (.lst [.str (Str.ofString "")])) := (Same.refl H).upd hL
    have nLD : L ≠ D := ne_of_none upd_same hD
    have nD : H D = none := s1.none hD
    have s2 := s1.upd (o := .dK []) nD
    refine ⟨(by show 3 ≤ sizeLine; decide), fun T hT => ?_⟩
    have s3 := s2.upd (o := .tup [.ref L, .ref D, .int 0]) (s2.none hT)
    have nDT : D ≠ T := ne_of_none upd_same hT
    have nLT : L ≠ T := ne_of_none (show upd (upd H L (.lst [.str (Str.ofString "")])) D (.dK []) L = _ by rw [upd_ne nLD, upd_same]) hT
    have gL : upd (upd (upd H L (.lst [.str (Str.ofString "")])) D (.dK [])) T (.tup [.ref L, .ref D, .int 0]) L = some (.lst [.str (Str.ofString "")]) := by rw [upd_ne nLT, upd_ne nLD, upd_same]
    have gD : upd (upd (upd H L (.lst [.str (Str.ofString "")])) D (.dK [])) T (.tup [.ref L, .ref D, .int 0]) D = some (.dK []) := by rw [upd_ne nDT, upd_same]
    refine ⟨T, _, rfl, SqT.of upd_same, rfl, _, _, rfl, _, _, rfl, _, _, rfl, rfl, ?_⟩
    generalize upd (upd (upd H L (.lst [.str (Str.ofString "")])) D (.dK [])) T (.tup [.ref L, .ref D, .int 0]) = H0 at s3 gL gD ⊢
    have hBn : 2 * 4 ^ (B + 1) ≤ 8400000 := Nat.le_trans (Nat.mul_le_mul_left 2 (Nat.pow_le_pow_right (by decide) (show B + 1 ≤ 11 by omega))) (by decide)
    have few : ∀ {N : List Str} {k : Nat}, Bfs z rss N k → N.length ≤ 2 * 4 ^ (B + 1) := fun h => h.few az.hi hB
    generalize 2 * 4 ^ (B + 1) = Bn at hBn few
    refine ⟨fun σ' H' => ∃ (L D : Addr) (N : List Str), σ' = [some (.str z), some (.ref S), some (.ref L), some (.ref D), some (.int ((N.length : Nat) : Int)), none, none, none, none, none, none, none] ∧ Same H H' ∧ H' L = some (.lst (N.map V.str))
      ∧ Bfs z rss N N.length ∧ Beh z rss H' D L N ∧ N.length ≤ Bn, ?_, ?_⟩
    · refine while_by (fun σ' H' => ∃ (L D : Addr) (N : List Str) (k : Nat), σ' = [some (.str z), some (.ref S), some (.ref L), some (.ref D), some (.int ((k : Nat) : Int)), none, none, none, none, none, none, none] ∧ Same H H' ∧ H L = none ∧ H D = none ∧ H' L = some (.lst (N.map V.str))
        ∧ Bfs z rss N k ∧ Beh z rss H' D L (N.take k) ∧ N.length ≤ Bn) (mu Bn) ?_ ?_ ?_
      · exact ⟨L, D, [Str.ofString ""], 0, rfl, s3, hL, nD, gL, Bfs.start z rss, ⟨[], gD, ⟨rfl, List.nodup_nil⟩, fun y hy => by rw [List.take_zero] at hy; cases hy⟩, few (Bfs.start z rss)⟩
      · rintro σ' Hi ⟨L, D, N, kk, rfl, si, nL, nD, gL, bf, bh, hN⟩
        refine ⟨_, rfl, _, rfl, _, N.length, rfl, .inl ⟨_, SqL.of gL, (by rw [List.length_map])⟩, _, _, rfl, rfl, _, rfl, ?_⟩
        refine ite2 (fun hlt => ?_) (fun hlt => ?_)
        · have hk : kk < N.length := by have := of_decide_eq_true hlt; omega
          obtain ⟨y, hy⟩ : ∃ y, N[kk]? = some y := ⟨_, List.getElem?_eq_getElem hk⟩
          have hat : atI (N.map V.str) ((kk : Nat) : Int) = some (.str y) := atI_nat (by rw [List.getElem?_map, hy]; rfl)
          obtain ⟨kvs, gD, hks, hvs⟩ := bh.ex
          have lkv : kvs.length ≤ kk := by rw [hks.len, List.length_take]; omega
          have hyn := kid_new bf hy
          have ly : Over z y ∧ y.length ≤ B + 1 := bf.ok hB _ y (List.mem_of_getElem? hy) rfl
          have lad : (N.take kk ++ [y]) = N.take (kk + 1) := (take_snoc hy).symm
          have hadd : addB (N.take kk) y = N.take (kk + 1) := by unfold addB; rw [if_neg hyn, lad]
          have nLD : L ≠ D := ne_of gL gD (by intro q; cases q)
          refine ⟨(by show 0 ≤ sizeLine; decide), fun A hA => ?_⟩
          have nAL : L ≠ A := ne_of_none gL hA
          have nAD : D ≠ A := ne_of_none gD hA
          have gD1 : upd Hi A (.lst []) D = some (.dK kvs) := by rw [upd_ne nAD]; exact gD
          refine ⟨_, rfl, _, rfl, _, rfl, L, _, _, .str y, rfl, rfl, SqL.of (by rw [upd_ne nAL]; exact gL), hat, D, _, rfl, DPut.k (k := Sum.inr y) gD1 (by rw [sz]; omega), ?_⟩
          have sb : Same H (upd (upd Hi A (.lst [])) D (.dK (putK kvs (Sum.inr y : Key) (.ref A)))) := (si.upd (si.none hA)).upd nD
          have gLb : upd (upd Hi A (.lst [])) D (.dK (putK kvs (Sum.inr y : Key) (.ref A))) L = some (.lst (N.map V.str)) := by rw [upd_ne nLD, upd_ne nAL]; exact gL
          have gAb : upd (upd Hi A (.lst [])) D (.dK (putK kvs (Sum.inr y : Key) (.ref A))) A = some (.lst []) := by rw [upd_ne (Ne.symm nAD), upd_same]
          have gDb : upd (upd Hi A (.lst [])) D (.dK (putK kvs (Sum.inr y : Key) (.ref A))) D = some (.dK (putK kvs (Sum.inr y : Key) (.ref A))) := upd_same
          have kp : ∀ a xs, Hi a = some (.lst xs) → upd (upd Hi A (.lst [])) D (.dK (putK kvs (Sum.inr y : Key) (.ref A))) a = some (.lst xs) := fun a xs e => by
            rw [upd_ne (ne_of e gD (by intro q; cases q)), upd_ne (ne_of_none e hA)]
            exact e
          generalize upd (upd Hi A (.lst [])) D (.dK (putK kvs (Sum.inr y : Key) (.ref A))) = Hb at sb gLb gAb gDb kp ⊢
          have hks1 := hks.put y (.ref A)
          rw [hadd] at hks1
          have old : ∀ y' ∈ N.take kk, ∃ a, valV (putK kvs (Sum.inr y : Key) (.ref A)) (Sum.inr y' : Key) = some (.ref a) ∧ Hb a = some (.lst ((kids z rss y').map V.str)) ∧ a ≠ L := fun y' hy' => by
            obtain ⟨a, q1, q2, q3⟩ := hvs y' hy'
            refine ⟨a, ?_, kp _ _ q2, q3⟩
            rw [L2.valV_put, if_neg (fun e => hyn (by rw [← Sum.inr.inj e]; exact hy'))]
            exact q1
          have val1 : valV (putK kvs (Sum.inr y : Key) (.ref A)) (Sum.inr y : Key) = some (.ref A) := by rw [L2.valV_put, if_pos rfl]
          generalize putK kvs (Sum.inr y : Key) (.ref A) = kv1 at gDb hks1 old val1
          have lk1 : kv1.length ≤ kk + 1 := by rw [hks1.len, List.length_take]; omega
          refine ⟨fun σ' H' => σ' = [some (.str z), some (.ref S), some (.ref L), some (.ref D), some (.int ((kk : Nat) : Int)), none, none, none, none, none, none, none] ∧ Same H H' ∧ H' L = some (.lst (N.map V.str)) ∧ Beh z rss H' D L (N.take (kk + 1)), ?_, ?_⟩
          · refine ⟨_, rfl, _, rfl, _, rfl, L, _, _, .str y, rfl, rfl, SqL.of gLb, hat, S, y, rss, rfl, hS.same sb, (by omega), _, rfl, ?_⟩
            cases hsb : shortB rss y with
            | false =>
              refine iteF ?_
              refine ⟨rfl, sb, gLb, kv1, gDb, hks1, fun y' hy' => ?_⟩
              rw [← lad] at hy'
              rcases List.mem_append.mp hy' with q | q
              · exact old y' q
              · rw [List.mem_singleton.mp q]
                refine ⟨A, val1, ?_, Ne.symm nAL⟩
                rw [gAb]
                unfold kids
                rw [hsb]
                rfl
            | true =>
              refine iteT ?_
              refine ⟨_, rfl, z, rfl, fun C hC => ?_⟩
              have nLC : L ≠ C := ne_of_none gLb hC
              have nDC : D ≠ C := ne_of_none gDb hC
              refine lc_it walk_str (fun t Ht => Same Hb Ht ∧ Ht C = some (.lst (((ls z).take t).map fun c => V.str (y ++ sg1 c)))) ?_ (fun _ _ _ _ => trivial) ?_ ?_
              · exact ⟨(Same.refl Hb).upd hC, by rw [upd_same, List.take_zero]; rfl⟩
              · rintro t x Ht _ ht ⟨st, gC⟩ ⟨rfl, c, hc, rfl⟩
                have hcl : (ls z)[t]? = some c := by simpa using hc
                have htz : t < z.length := ht
                have zhi := az.hi
                refine ⟨rfl, _, rfl, _, rfl, L, _, _, .str y, rfl, rfl, SqL.of (st _ _ gLb), hat, _, rfl, _, _, rfl, rfl, (by rw [len_one, sz]; omega), ?_⟩
                refine ⟨_, gC, (by rw [List.length_map, List.length_take, sz]; omega), st.upd hC, ?_⟩
                rw [upd_same, take_snoc hcl, List.map_append]
                rfl
              · rintro Hc ⟨sc, gC⟩
                have eC : ((ls z).take z.cps.size).map (fun c => V.str (y ++ sg1 c)) = (kids z rss y).map V.str := by
                  unfold kids ext
                  rw [hsb, if_pos rfl, List.map_map, List.take_of_length_le (by rw [Array.length_toList]; exact Nat.le_refl _)]
                  rfl
                rw [eC] at gC
                have gDc := sc _ _ gDb
                have gLc := sc _ _ gLb
                refine ⟨_, rfl, _, rfl, _, rfl, L, _, _, .str y, rfl, rfl, SqL.of gLc, hat, D, _, rfl, DPut.k (k := Sum.inr y) gDc (by rw [sz]; omega), ?_⟩
                have hks2 := hks1.put y (.ref C)
                have hin : y ∈ N.take (kk + 1) := by rw [← lad]; exact List.mem_append_right _ (List.mem_singleton.mpr rfl)
                have hadd2 : addB (N.take (kk + 1)) y = N.take (kk + 1) := by unfold addB; rw [if_pos hin]
                rw [hadd2] at hks2
                refine ⟨rfl, (sb.trans sc).upd nD, by rw [upd_ne nLD]; exact gLc, _, upd_same, hks2, fun y' hy' => ?_⟩
                rw [← lad] at hy'
                rcases List.mem_append.mp hy' with q | q
                · obtain ⟨a, q1, q2, q3⟩ := old y' q
                  refine ⟨a, ?_, ?_, q3⟩
                  · rw [L2.valV_put, if_neg (fun e => hyn (by rw [← Sum.inr.inj e]; exact q))]
                    exact q1
                  · have := sc _ _ q2
                    rw [upd_ne (ne_of this gDc (by intro q; cases q))]
                    exact this
                · rw [List.mem_singleton.mp q]
                  refine ⟨C, by rw [L2.valV_put, if_pos rfl], ?_, Ne.symm nLC⟩
                  rw [upd_ne (Ne.symm nDC)]
                  exact gC
          · rintro σ' Hc ⟨rfl, sc, gLc, bc⟩
            obtain ⟨kv2, gDc, hk2, hv2⟩ := bc.ex
            obtain ⟨a, va, ga, naL⟩ := hv2 y (by rw [← lad]; exact List.mem_append_right _ (List.mem_singleton.mpr rfl))
            have lkid : (kids z rss y).length ≤ 4 := by
              unfold kids
              split
              · unfold ext
                rw [List.length_map, ← str_len]
                exact az.hi
              · exact Nat.zero_le _
            refine ⟨_, rfl, .inl ⟨rfl, _, SqL.of gLc⟩, _, rfl, _, rfl, _, rfl, L, _, _, .str y, rfl, rfl, SqL.of gLc, hat, D, .ref a, rfl, (by have q := DGet.k (k := Sum.inr y) gDc; rw [va] at q; exact q), ?_⟩
            refine ⟨L, a, _, _, rfl, rfl, gLc, ga, (by rw [List.length_map, List.length_map, sz]; omega), ?_⟩
            have bf2 := bf.step az.up hy
            refine ⟨_, rfl, _, _, rfl, rfl, ⟨L, D, N ++ kids z rss y, kk + 1, rfl, sc.upd nL, nL, nD, by rw [upd_same, List.map_append], bf2, ⟨kv2, by rw [upd_ne (Ne.symm nLD)]; exact gDc, ?_, fun y' hy' => ?_⟩, few bf2⟩, ?_⟩
            · rw [List.take_append_of_le_length (by omega)]
              exact hk2
            · rw [List.take_append_of_le_length (by omega)] at hy'
              obtain ⟨a', q1, q2, q3⟩ := hv2 y' hy'
              exact ⟨a', q1, by rw [upd_ne q3]; exact q2, q3⟩
            · show Bn - (((kk : Nat) : Int) + 1).toNat < Bn - (((kk : Nat) : Int)).toNat
              omega
        · have hk : kk = N.length := by
            have h1 : ¬ kk < N.length := fun q => hlt (decide_eq_true (by omega))
            have h2 := bf.le
            omega
          subst hk
          rw [List.take_length] at bh
          exact ⟨L, D, N, rfl, si, gL, bf, bh, hN⟩
      · rintro σ' Hi Q1 Q2 hq ⟨v, e1, u, e2, x, n, e3, l, i, j, e4, e5, b, e6, q⟩
        exact ⟨v, e1, u, e2, x, n, e3, l, i, j, e4, e5, b, e6, hq _ _ q⟩
    · rintro σ' Hi ⟨L, D, N, rfl, si, gL, bf, bh, hN⟩
      have nd0 := nodup_of_lt bf.srt
      have lyN : ∀ y ∈ N, y.length ≤ 11 := fun y hy => by have := (bf.ok hB _ y hy rfl).2; omega
      refine ⟨fun σ' H' => ∃ (I W : Addr) (Hz : Hp), σ' = [some (.str z), some (.ref S), some (.ref L), some (.ref D), some (.int ((N.length : Nat) : Int)), none, some (.ref I), some (.ref W), none, none, none, none] ∧ Same Hi Hz ∧ Same Hz H'
        ∧ Tells Hz I (fun y => .str (thr rss y)) N N.length ∧ Hz W = none ∧ H' W = some (.dK []), ?_, ?_⟩
      · -- what each line is turned to
        refine ⟨_, rfl, L, rfl, ⟨_, SqL.of gL⟩, fun C hC => ?_⟩
        refine lc_it (walk_list (xs := N.map V.str)) (fun j Hj => Same Hi Hj ∧ ∃ ps : List Addr, Hj C = some (.lst (ps.map V.ref)) ∧ Paired (fun p (kv : Key × V) => Hj p = some (.tup [kV kv.1, kv.2])) ps ((N.take j).map fun y => ((Sum.inr y : Key), V.str (thr rss y)))) ?_ ?_ ?_ ?_
        · exact ⟨(Same.refl Hi).upd hC, [], upd_same, by rw [List.take_zero]; exact .nil⟩
        · rintro j Hj _ ⟨sj, _⟩
          exact SqL.of (sj _ _ gL)
        · rintro j x Hj0 Hj hj ⟨sj, ps, gC, pr⟩ ⟨rfl, hxj⟩
          rw [List.getElem?_map] at hxj
          cases hy : N[j]? with
          | none =>
            rw [hy] at hxj
            cases hxj
          | some y =>
            rw [hy] at hxj
            obtain rfl : V.str y = x := Option.some.inj hxj
            have ly := lyN y (List.mem_of_getElem? hy)
            have lps : ps.length ≤ N.length := by have := paired_len pr; rw [List.length_map, List.length_take] at this; omega
            refine ⟨rfl, _, rfl, _, rfl, _, rfl, S, y, rss, rfl, hS.same (si.trans sj), (by omega), (by show 2 ≤ sizeLine; decide), fun T hT => ?_⟩
            have nCT : C ≠ T := ne_of_none gC hT
            refine ⟨ps.map V.ref, by rw [upd_ne nCT]; exact gC, (by rw [List.length_map, sz]; omega), (sj.upd (sj.none hT)).upd hC, ps ++ [T], by rw [upd_same, List.map_append]; rfl, ?_⟩
            rw [take_snoc hy, List.map_append]
            refine paired_snoc (paired_map pr fun p kv e => ?_) ?_
            · rw [upd_ne (ne_of e gC (by intro q; cases q)), upd_ne (ne_of_none e hT)]
              exact e
            · rw [upd_ne (Ne.symm nCT), upd_same]
              rfl
        · rintro Hd ⟨sd, ps, gC, pr⟩
          rw [List.length_map, List.take_length] at pr
          refine ⟨C, ps, _, rfl, SqL.of gC, paired_map pr (fun p kv e => SqT.of e), fun I hI => ?_⟩
          intro W hW
          have nIW : I ≠ W := ne_of_none upd_same hW
          obtain ⟨ks, q1, q2, q3, q4⟩ := merge_tells (g := fun y => V.str (thr rss y)) (ms := N) (kvs := []) (ks := []) ⟨rfl, List.nodup_nil⟩ (fun _ h => nomatch h)
          refine ⟨_, _, rfl, I, W, _, rfl, sd.upd (sd.none hI), (Same.refl _).upd hW, ⟨_, ks, upd_same, q1, (by rw [List.length_nil] at q4; omega), fun y hy => q3 y ((q2 y).mpr (.inr hy))⟩, hW, upd_same⟩
      · rintro σ' Hq ⟨I, W, Hz, rfl, sz1, sz2, tI, nW, gW⟩
        have bhz := bh.same sz1
        have gLz := sz1 _ _ gL
        -- which lines are even
        refine ⟨fun σ' H' => ∃ (o5 o8 : Option V), σ' = [some (.str z), some (.ref S), some (.ref L), some (.ref D), some (.int ((N.length : Nat) : Int)), o5, some (.ref I), some (.ref W), o8, none, none, none] ∧ Same Hz H'
          ∧ Tells H' W (fun y => .bl (evnB z rss y)) N N.length, ?_, ?_⟩
        · refine ⟨_, rfl, L, _, rfl, SqL.of (sz2 _ _ gLz), fun R hR => ?_⟩
          have nWR : W ≠ R := ne_of_none gW hR
          have sR := sz2.upd (o := .lst (N.map V.str).reverse) (sz2.none hR)
          have gR : upd Hq R (.lst (N.map V.str).reverse) R = some (.lst (N.reverse.map V.str)) := by rw [upd_same, List.map_reverse]
          have gW2 : upd Hq R (.lst (N.map V.str).reverse) W = some (.dK []) := by rw [upd_ne nWR]; exact gW
          generalize upd Hq R (.lst (N.map V.str).reverse) = Hr at sR gR gW2 ⊢
          refine ⟨R, rfl, ⟨_, SqL.of gR⟩, for_list (xs := N.reverse.map V.str) (fun j σ Hj => ∃ (o5 o8 : Option V) (kvs : List (Key × V)) (ks : List Str), σ = [some (.str z), some (.ref S), some (.ref L), some (.ref D), some (.int ((N.length : Nat) : Int)), o5, some (.ref I), some (.ref W), o8, none, none, none]
            ∧ Same Hz Hj ∧ Hj R = some (.lst (N.reverse.map V.str)) ∧ Hj W = some (.dK kvs) ∧ KeysOf kvs ks ∧ ks.length ≤ j ∧ ∀ y ∈ N.reverse.take j, valV kvs (Sum.inr y : Key) = some (.bl (evnB z rss y))) ?_ ?_ ?_ ?_⟩
          · exact ⟨none, none, [], [], rfl, sR, gR, gW2, ⟨rfl, List.nodup_nil⟩, Nat.le_refl _, fun y hy => by rw [List.take_zero] at hy; cases hy⟩
          · rintro j σ Hj _ ⟨_, _, _, _, _, _, h, _⟩
            exact SqL.of h
          · rintro j x σ Hj hx ⟨o5, o8, kvs, ks, rfl, sj, gRj, gWj, hks, lks, hv⟩
            rw [List.getElem?_map] at hx
            cases hy : N.reverse[j]? with
            | none =>
              rw [hy] at hx
              cases hx
            | some y =>
              rw [hy] at hx
              obtain rfl : V.str y = x := Option.some.inj hx
              have hyN : y ∈ N := List.mem_reverse.mp (List.mem_of_getElem? hy)
              have hjl : j < N.length := by have := (List.getElem?_eq_some_iff.mp hy).1; rw [List.length_reverse] at this; exact this
              have hyi : N[N.length - 1 - j]? = some y := by
                rw [← hy, List.getElem?_reverse hjl]
              have lkv := hks.len
              have hyn : y ∉ N.reverse.take j := fun q => by
                obtain ⟨m, hm, hme⟩ := List.mem_take_iff_getElem.mp q
                have hj2 := (List.getElem?_eq_some_iff.mp hy).1
                have h3 := (List.getElem?_eq_some_iff.mp hy).2
                have := (List.getElem_inj (h₀ := by omega) (h₁ := hj2) ((List.reverse_perm N).symm.nodup nd0)).mp (hme.trans h3.symm)
                omega
              have hkid : ∀ x ∈ kids z rss y, x ∈ N.reverse.take j := fun x hx => by
                have := kid_after bf hyi hx
                rw [List.take_reverse, List.mem_reverse]
                rw [show N.length - j = N.length - 1 - j + 1 by omega]
                exact this
              obtain ⟨kd', gDz, hkd, hvd⟩ := bhz.ex
              obtain ⟨a, va, ga, naL⟩ := hvd y hyN
              obtain ⟨ki, kis, gIz, hki, lki, hvi⟩ := tI
              refine ⟨_, rfl, _, rfl, W, _, rfl, DPut.k (k := Sum.inr y) gWj (by rw [sz]; omega), ?_⟩
              have nWD : Hz W = none := nW
              have sj1 : Same Hz (upd Hj W (.dK (putK kvs (Sum.inr y : Key) (.bl true)))) := sj.upd nW
              have nRW : R ≠ W := ne_of gRj gWj (by intro q; cases q)
              have gR1 : upd Hj W (.dK (putK kvs (Sum.inr y : Key) (.bl true))) R = some (.lst (N.reverse.map V.str)) := by rw [upd_ne nRW]; exact gRj
              have gW1 : upd Hj W (.dK (putK kvs (Sum.inr y : Key) (.bl true))) W = some (.dK (putK kvs (Sum.inr y : Key) (.bl true))) := upd_same
              generalize upd Hj W (.dK (putK kvs (Sum.inr y : Key) (.bl true))) = H1 at sj1 gR1 gW1 ⊢
              have hk1 := hks.put y (.bl true)
              have lk1 : (addB ks y).length ≤ j + 1 := Nat.le_trans (addB_len _ _) (by omega)
              have hv1 : ∀ y' ∈ N.reverse.take j, valV (putK kvs (Sum.inr y : Key) (.bl true)) (Sum.inr y' : Key) = some (.bl (evnB z rss y')) := fun y' hy' => by
                rw [L2.valV_put, if_neg (fun e => hyn (by rw [← Sum.inr.inj e]; exact hy'))]
                exact hv y' hy'
              have hvy : valV (putK kvs (Sum.inr y : Key) (.bl true)) (Sum.inr y : Key) = some (.bl true) := by rw [L2.valV_put, if_pos rfl]
              generalize putK kvs (Sum.inr y : Key) (.bl true) = kv1 at gW1 hk1 hv1 hvy
              generalize addB ks y = ks1 at hk1 lk1
              refine ⟨_, rfl, _, rfl, D, .ref a, rfl, (by have q := DGet.k (k := Sum.inr y) (sj1 _ _ gDz); rw [va] at q; exact q), a, rfl, ⟨_, SqL.of (sj1 _ _ ga)⟩, ?_⟩
              refine for_list (xs := (kids z rss y).map V.str) (fun t σ Ht => ∃ (o8 : Option V) (kvs : List (Key × V)) (ks : List Str) (b : Bool), σ = [some (.str z), some (.ref S), some (.ref L), some (.ref D), some (.int ((N.length : Nat) : Int)), some (.str y), some (.ref I), some (.ref W), o8, none, none, none]
                ∧ Same Hz Ht ∧ Ht R = some (.lst (N.reverse.map V.str)) ∧ Ht W = some (.dK kvs) ∧ KeysOf kvs ks ∧ ks.length ≤ j + 1 ∧ y ∈ ks ∧ (∀ y ∈ N.reverse.take j, valV kvs (Sum.inr y : Key) = some (.bl (evnB z rss y))) ∧ valV kvs (Sum.inr y : Key) = some (.bl b)
                ∧ (b = true ↔ ∀ x ∈ (kids z rss y).take t, ∀ c, x = y ++ sg1 c → evnB z rss x = true ∧ thr rss x = thr rss y ++ sg1 c)) ?_ ?_ ?_ ?_
              · exact ⟨o8, kv1, ks1, true, rfl, sj1, gR1, gW1, hk1, lk1, hk1.val.mp (by rw [hvy]; exact fun q => nomatch q), hv1, hvy, ⟨fun _ x hx => (by rw [List.take_zero] at hx; cases hx), fun _ => rfl⟩⟩
              · rintro t σ Ht _ ⟨_, _, _, _, _, st, _⟩
                exact SqL.of (st _ _ ga)
              · rintro t x σ Ht hx ⟨o8', kv2, ks2, b, rfl, st, gRt, gWt, hk2, lk2, hyk, hv2, hvb, hb⟩
                rw [List.getElem?_map] at hx
                cases hxx : (kids z rss y)[t]? with
                | none =>
                  rw [hxx] at hx
                  cases hx
                | some x1 =>
                  rw [hxx] at hx
                  obtain rfl : V.str x1 = x := Option.some.inj hx
                  have hxk : x1 ∈ kids z rss y := List.mem_of_getElem? hxx
                  have hx1 := hkid x1 hxk
                  have hxN : x1 ∈ N := List.mem_reverse.mp (List.mem_of_mem_take hx1)
                  obtain ⟨_, c, hc, ex⟩ := mem_kids.mp hxk
                  have lx1 := lyN x1 hxN
                  have ly1 := lyN y hyN
                  have etk : (kids z rss y).take (t + 1) = (kids z rss y).take t ++ [x1] := take_snoc hxx
                  have only : ∀ d, x1 = y ++ sg1 d → d = c := fun d hd => by
                    have := congrArg ls (hd.symm.trans ex)
                    rw [ls_sg1, ls_sg1] at this
                    exact List.singleton_inj.mp (List.append_cancel_left this)
                  have last : atI x1.cps.toList (-1) = some c := by
                    have e : x1.cps.toList = ls y ++ [c] := by rw [ex]; exact ls_sg1 y c
                    rw [e]
                    exact atI_last _ _
                  have lthr : ∀ u : Str, u.length ≤ 11 → (thr rss u).length ≤ 1000 := fun u hu => by
                    have h1 : (thr rss u).length ≤ u.length + rss.length * 100 := thr_len fun rs h r hr' => (hS.rb rs h r hr').2
                    have h2 := hS.few
                    omega
                  have lt2 := lthr y ly1
                  -- it is not even
                  have put : ∃ o8 kvs ks b, [some (V.str z), some (.ref S), some (.ref L), some (.ref D), some (.int ((N.length : Nat) : Int)), some (.str y), some (.ref I), some (.ref W), some (.str x1), none, none, none] = [some (V.str z), some (.ref S), some (.ref L), some (.ref D), some (.int ((N.length : Nat) : Int)), some (.str y), some (.ref I), some (.ref W), o8, none, none, none]
                      ∧ Same Hz (upd Ht W (.dK (putK kv2 (Sum.inr y : Key) (.bl false)))) ∧ upd Ht W (.dK (putK kv2 (Sum.inr y : Key) (.bl false))) R = some (.lst (N.reverse.map V.str)) ∧ upd Ht W (.dK (putK kv2 (Sum.inr y : Key) (.bl false))) W = some (.dK kvs) ∧ KeysOf kvs ks ∧ ks.length ≤ j + 1 ∧ y ∈ ks
                      ∧ (∀ y ∈ N.reverse.take j, valV kvs (Sum.inr y : Key) = some (.bl (evnB z rss y))) ∧ valV kvs (Sum.inr y : Key) = some (.bl b) ∧ (b = true ↔ ¬ True) := by
                    refine ⟨_, putK kv2 (Sum.inr y : Key) (.bl false), ks2, false, rfl, st.upd nW, by rw [upd_ne nRW]; exact gRt, upd_same, ?_, lk2, hyk, fun y' hy' => ?_, by rw [L2.valV_put, if_pos rfl], ⟨fun q => (nomatch q), fun q => absurd trivial q⟩⟩
                    · have := hk2.put y (.bl false)
                      have e : addB ks2 y = ks2 := by unfold addB; rw [if_pos hyk]
                      rw [e] at this
                      exact this
                    · rw [L2.valV_put, if_neg (fun e => hyn (by rw [← Sum.inr.inj e]; exact hy'))]
                      exact hv2 y' hy'
                  obtain ⟨o8p, kvp, ksp, bp, eσ, p1, p2, p3, p4, p5, p6, p7, p8, p9⟩ := put
                  have bad : (¬ (evnB z rss x1 = true ∧ thr rss x1 = thr rss y ++ sg1 c)) → (bp = true ↔ ∀ x ∈ (kids z rss y).take (t + 1), ∀ c, x = y ++ sg1 c → evnB z rss x = true ∧ thr rss x = thr rss y ++ sg1 c) := fun hn => by
                    rw [p9]
                    refine ⟨fun q => absurd trivial q, fun q => absurd (q x1 (by rw [etk]; exact List.mem_append_right _ (List.mem_singleton.mpr rfl)) c ex) hn⟩
                  refine ⟨_, rfl, _, rfl, W, _, rfl, (by have q := DGet.k (k := Sum.inr x1) gWt; rw [hv2 x1 hx1] at q; exact q), _, rfl, ?_⟩
                  cases hev : evnB z rss x1 with
                  | false =>
                    refine iteT ?_
                    refine iteT ?_
                    refine ⟨_, rfl, _, rfl, W, _, rfl, DPut.k (k := Sum.inr y) gWt (by rw [hk2.len, sz]; omega), ?_⟩
                    exact ⟨o8p, kvp, ksp, bp, eσ, p1, p2, p3, p4, p5, p6, p7, p8, bad fun q => by rw [hev] at q; cases q.1⟩
                  | true =>
                    refine iteF ?_
                    refine ⟨_, rfl, _, rfl, I, _, rfl, (by have q := DGet.k (k := Sum.inr x1) (st _ _ gIz); rw [hvi x1 hxN] at q; exact q), ?_⟩
                    refine ⟨_, rfl, _, rfl, I, _, rfl, (by have q := DGet.k (k := Sum.inr y) (st _ _ gIz); rw [hvi y hyN] at q; exact q), ?_⟩
                    refine ⟨_, rfl, 1, rfl, x1, -1, c, rfl, rfl, (by rw [sz]; omega), last, thr rss y, sg1 c, rfl, rfl, (by rw [show (sg1 c).length = 1 from rfl, sz]; omega), rfl, _, rfl, ?_⟩
                    by_cases he : thr rss x1 = thr rss y ++ sg1 c
                    · rw [decide_eq_true (congrArg V.str he)]
                      refine iteF ?_
                      refine ⟨_, kv2, ks2, b, rfl, st, gRt, gWt, hk2, lk2, hyk, hv2, hvb, ?_⟩
                      rw [hb, etk]
                      constructor
                      · intro q x hx d hd
                        rcases List.mem_append.mp hx with q' | q'
                        · exact q x q' d hd
                        · have e := List.mem_singleton.mp q'
                          rw [e] at hd ⊢
                          rw [only d hd]
                          exact ⟨hev, he⟩
                      · intro q x hx d hd
                        exact q x (List.mem_append_left _ hx) d hd
                    · rw [decide_eq_false (strV_ne he)]
                      refine iteT ?_
                      refine ⟨_, rfl, _, rfl, W, _, rfl, DPut.k (k := Sum.inr y) gWt (by rw [hk2.len, sz]; omega), ?_⟩
                      exact ⟨o8p, kvp, ksp, bp, eσ, p1, p2, p3, p4, p5, p6, p7, p8, bad fun q => he q.2⟩
              · rintro σ Ht ⟨o8', kv2, ks2, b, rfl, st, gRt, gWt, hk2, lk2, hyk, hv2, hvb, hb⟩
                rw [List.length_map, List.take_length] at hb
                have eb := evn_of_kids hb
                refine ⟨_, _, kv2, ks2, rfl, st, gRt, gWt, hk2, lk2, fun y' hy' => ?_⟩
                rw [take_snoc hy] at hy'
                rcases List.mem_append.mp hy' with q | q
                · exact hv2 y' q
                · rw [List.mem_singleton.mp q, hvb, eb]
          · rintro σ Hj ⟨o5, o8, kvs, ks, rfl, sj, gRj, gWj, hks, lks, hv⟩
            rw [List.length_map, List.length_reverse] at lks
            refine ⟨o5, o8, rfl, sj, kvs, ks, gWj, hks, lks, fun y hy => hv y ?_⟩
            rw [List.length_map, List.take_length]
            exact List.mem_reverse.mpr hy
        · rintro σ' Hn ⟨o5, o8, rfl, szn, tW⟩
          obtain ⟨kw, kws, gWn, hkw, lkw, hvw⟩ := tW
          obtain ⟨ki, kis, gIz, hki, lki, hvi⟩ := tI
          have hvw' : ∀ y ∈ N, valV kw (Sum.inr y : Key) = some (.bl (evnB z rss y)) := hvw
          clear hvw
          have hvw := hvw'
          have gIn := szn _ _ gIz
          have gLn := szn _ _ gLz
          have bhn := bhz.same szn
          obtain ⟨kd', gDn, hkd, hvd⟩ := bhn.ex
          have sHn := (si.trans sz1).trans szn
          refine ⟨(by show 0 ≤ sizeLine; decide), fun Fd hFd => ?_⟩
          intro Wt hWt
          have nFW : Fd ≠ Wt := ne_of_none upd_same hWt
          have sF : Same Hn (upd Hn Fd (.lst [])) := (Same.refl Hn).upd hFd
          have hWt0 : Hn Wt = none := sF.none hWt
          refine ⟨upd_same, [((Sum.inr (Str.ofString "") : Key), .bl true)], rfl, (by decide), _, _, rfl, ?_⟩
          have s0 : Same Hn (upd (upd (upd Hn Fd (.lst [])) Wt (.dK [])) Wt (.dK (mergeK [] [((Sum.inr (Str.ofString "") : Key), V.bl true)]))) := (sF.upd hWt0).upd hWt0
          have gF0 : upd (upd (upd Hn Fd (.lst [])) Wt (.dK [])) Wt (.dK (mergeK [] [((Sum.inr (Str.ofString "") : Key), V.bl true)])) Fd = some (.lst []) := by rw [upd_ne nFW, upd_ne nFW, upd_same]
          have gW0 : upd (upd (upd Hn Fd (.lst [])) Wt (.dK [])) Wt (.dK (mergeK [] [((Sum.inr (Str.ofString "") : Key), V.bl true)])) Wt = some (.dK [((Sum.inr (Str.ofString "") : Key), V.bl true)]) := upd_same
          generalize upd (upd (upd Hn Fd (.lst [])) Wt (.dK [])) Wt (.dK (mergeK [] [((Sum.inr (Str.ofString "") : Key), V.bl true)])) = H0' at s0 gF0 gW0 ⊢
          refine ⟨_, rfl, L, rfl, ⟨_, SqL.of (s0 _ _ gLn)⟩, for_list (xs := N.map V.str) (fun j σ Hj => ∃ (o5 o8 : Option V) (ws : List V) (kvs : List (Key × V)) (ks : List Str), σ = [some (.str z), some (.ref S), some (.ref L), some (.ref D), some (.int ((N.length : Nat) : Int)), o5, some (.ref I), some (.ref W), o8, some (.ref Fd), some (.ref Wt), none]
            ∧ Same Hn Hj ∧ Hj Fd = some (.lst ws) ∧ RulesAt Hj ws (lawCells z rss (N.take j)) ∧ Hj Wt = some (.dK kvs) ∧ KeysOf kvs ks ∧ (∀ y ∈ ks, valV kvs (Sum.inr y : Key) = some (.bl true)) ∧ (∀ x, x ∈ ks ↔ Waits z rss (N.take j) x) ∧ ks.length ≤ 1 + 4 * j) ?_ ?_ ?_ ?_⟩
          · refine ⟨o5, o8, [], [((Sum.inr (Str.ofString "") : Key), V.bl true)], [Str.ofString ""], rfl, s0, gF0, by rw [List.take_zero]; exact .nil, gW0, ⟨rfl, List.nodup_cons.mpr ⟨(fun h => nomatch h), List.nodup_nil⟩⟩, fun y hy => ?_, fun x => ?_, Nat.le_refl _⟩
            · rw [List.mem_singleton.mp hy]
              rfl
            · rw [List.take_zero, List.mem_singleton]
              exact ⟨.inl, fun q => q.elim id fun ⟨_, hu, _⟩ => (nomatch hu)⟩
          · rintro j σ Hj _ ⟨_, _, _, _, _, _, sj, _⟩
            exact SqL.of (sj _ _ gLn)
          · rintro j x σ Hj hx ⟨o5, o8, ws, kvs, ks, rfl, sj, gFj, hws, gWj, hks, hvk, hwt, lks⟩
            rw [List.getElem?_map] at hx
            cases hy : N[j]? with
            | none =>
              rw [hy] at hx
              cases hx
            | some y =>
              rw [hy] at hx
              obtain rfl : V.str y = x := Option.some.inj hx
              have hyN : y ∈ N := List.mem_of_getElem? hy
              have hjl : j < N.length := (List.getElem?_eq_some_iff.mp hy).1
              have ly := lyN y hyN
              have etk : N.take (j + 1) = N.take j ++ [y] := take_snoc hy
              have lws := paired_len hws
              have lf : (lawCells z rss (N.take j)).length ≤ N.length := by
                unfold lawCells
                rw [List.length_map]
                exact Nat.le_trans (List.length_filter_le _ _) (by rw [List.length_take]; omega)
              refine ⟨_, rfl, _, rfl, Wt, _, rfl, DGet.k (k := Sum.inr y) gWj, _, rfl, ?_⟩
              rw [val_some hks]
              by_cases hyk : y ∈ ks
              · rw [decide_eq_true hyk]
                refine iteT ?_
                have hcell : isCell z rss y = true := (waits_cell bf hy).mp ((hwt y).mp hyk)
                have ecell : lawCells z rss (N.take (j + 1)) = lawCells z rss (N.take j) ++ [lawCell z rss y] := by
                  unfold lawCells
                  rw [etk, List.filter_append, List.map_append, List.filter_cons, hcell]
                  rfl
                refine ⟨_, rfl, .inl ⟨rfl, _, SqL.of gFj⟩, ?_⟩
                refine ⟨_, rfl, _, rfl, W, _, rfl, (by have q := DGet.k (k := Sum.inr y) (sj _ _ gWn); rw [hvw y hyN] at q; exact q), _, rfl, ?_⟩
                cases he : evnB z rss y with
                | true =>
                  refine iteT ?_
                  refine ⟨_, rfl, _, rfl, _, rfl, I, _, rfl, (by have q := DGet.k (k := Sum.inr y) (sj _ _ gIn); rw [hvi y hyN] at q; exact q), (by show 3 ≤ sizeLine; decide), fun T hT => ?_⟩
                  have nFT : Fd ≠ T := ne_of_none gFj hT
                  have nWT : Wt ≠ T := ne_of_none gWj hT
                  refine ⟨Fd, _, _, rfl, rfl, by rw [upd_ne nFT]; exact gFj, (by rw [sz]; omega), ?_⟩
                  have sj2 : Same Hn (upd (upd Hj T (.tup [.str (Str.ofString "front"), .str y, .str (thr rss y)])) Fd (.lst (ws ++ [.ref T]))) := (sj.upd (sj.none hT)).upd hFd
                  have gF2 : upd (upd Hj T (.tup [.str (Str.ofString "front"), .str y, .str (thr rss y)])) Fd (.lst (ws ++ [.ref T])) Fd = some (.lst (ws ++ [.ref T])) := upd_same
                  have gW2 : upd (upd Hj T (.tup [.str (Str.ofString "front"), .str y, .str (thr rss y)])) Fd (.lst (ws ++ [.ref T])) Wt = some (.dK kvs) := by rw [upd_ne (Ne.symm nFW), upd_ne nWT]; exact gWj
                  have hw2 : RulesAt (upd (upd Hj T (.tup [.str (Str.ofString "front"), .str y, .str (thr rss y)])) Fd (.lst (ws ++ [.ref T]))) (ws ++ [.ref T]) (lawCells z rss (N.take (j + 1))) := by
                    rw [ecell]
                    refine paired_snoc (RulesAt.imp hws fun t a e => ?_) ⟨T, rfl, ?_⟩
                    · rw [upd_ne (ne_of e gFj (by intro q; cases q)), upd_ne (ne_of_none e hT)]
                      exact e
                    · rw [upd_ne (Ne.symm nFT), upd_same]
                      unfold lawCell ruleV
                      rw [he]
                      rfl
                  generalize upd (upd Hj T (.tup [.str (Str.ofString "front"), .str y, .str (thr rss y)])) Fd (.lst (ws ++ [.ref T])) = H2 at sj2 gF2 gW2 hw2 ⊢
                  refine ⟨_, rfl, _, rfl, W, _, rfl, (by have q := DGet.k (k := Sum.inr y) (sj2 _ _ gWn); rw [hvw y hyN, he] at q; exact q), _, rfl, ?_⟩
                  refine iteF ?_
                  refine ⟨_, _, _, kvs, ks, rfl, sj2, gF2, hw2, gW2, hks, hvk, fun x => ?_, by omega⟩
                  rw [hwt x, etk]
                  exact (waits_skip fun q => by rw [he] at q; cases q.2).symm
                | false =>
                  refine iteF ?_
                  refine ⟨_, rfl, _, rfl, _, rfl, I, _, rfl, (by have q := DGet.k (k := Sum.inr y) (sj _ _ gIn); rw [hvi y hyN] at q; exact q), (by show 3 ≤ sizeLine; decide), fun T hT => ?_⟩
                  have nFT : Fd ≠ T := ne_of_none gFj hT
                  have nWT : Wt ≠ T := ne_of_none gWj hT
                  refine ⟨Fd, _, _, rfl, rfl, by rw [upd_ne nFT]; exact gFj, (by rw [sz]; omega), ?_⟩
                  have sj2 : Same Hn (upd (upd Hj T (.tup [.str (Str.ofString "whole"), .str y, .str (thr rss y)])) Fd (.lst (ws ++ [.ref T]))) := (sj.upd (sj.none hT)).upd hFd
                  have gF2 : upd (upd Hj T (.tup [.str (Str.ofString "whole"), .str y, .str (thr rss y)])) Fd (.lst (ws ++ [.ref T])) Fd = some (.lst (ws ++ [.ref T])) := upd_same
                  have gW2 : upd (upd Hj T (.tup [.str (Str.ofString "whole"), .str y, .str (thr rss y)])) Fd (.lst (ws ++ [.ref T])) Wt = some (.dK kvs) := by rw [upd_ne (Ne.symm nFW), upd_ne nWT]; exact gWj
                  have hw2 : RulesAt (upd (upd Hj T (.tup [.str (Str.ofString "whole"), .str y, .str (thr rss y)])) Fd (.lst (ws ++ [.ref T]))) (ws ++ [.ref T]) (lawCells z rss (N.take (j + 1))) := by
                    rw [ecell]
                    refine paired_snoc (RulesAt.imp hws fun t a e => ?_) ⟨T, rfl, ?_⟩
                    · rw [upd_ne (ne_of e gFj (by intro q; cases q)), upd_ne (ne_of_none e hT)]
                      exact e
                    · rw [upd_ne (Ne.symm nFT), upd_same]
                      unfold lawCell ruleV
                      rw [he]
                      rfl
                  generalize upd (upd Hj T (.tup [.str (Str.ofString "whole"), .str y, .str (thr rss y)])) Fd (.lst (ws ++ [.ref T])) = H2 at sj2 gF2 gW2 hw2 ⊢
                  refine ⟨_, rfl, _, rfl, W, _, rfl, (by have q := DGet.k (k := Sum.inr y) (sj2 _ _ gWn); rw [hvw y hyN, he] at q; exact q), _, rfl, ?_⟩
                  refine iteT ?_
                  obtain ⟨a, va, ga, naL⟩ := hvd y hyN
                  refine ⟨_, rfl, .inr (.inr (.inl ⟨rfl, .inl ⟨_, gW2⟩⟩)), _, rfl, _, rfl, D, .ref a, rfl, (by have q := DGet.k (k := Sum.inr y) (sj2 _ _ gDn); rw [va] at q; exact q), a, rfl, ⟨_, SqL.of (sj2 _ _ ga)⟩, fun C hC => ?_⟩
                  have lkid : (kids z rss y).length ≤ 4 := by
                    unfold kids
                    split
                    · unfold ext
                      rw [List.length_map, ← str_len]
                      exact az.hi
                    · exact Nat.zero_le _
                  refine lc_it (walk_list (xs := (kids z rss y).map V.str)) (fun t Ht => Same H2 Ht ∧ ∃ ps : List Addr, Ht C = some (.lst (ps.map V.ref)) ∧ Paired (fun p (kv : Key × V) => Ht p = some (.tup [kV kv.1, kv.2])) ps (((kids z rss y).take t).map fun x => ((Sum.inr x : Key), V.bl true))) ?_ ?_ ?_ ?_
                  · exact ⟨(Same.refl H2).upd hC, [], upd_same, by rw [List.take_zero]; exact .nil⟩
                  · rintro t Ht _ ⟨st, _⟩
                    exact SqL.of (st _ _ (sj2 _ _ ga))
                  · rintro t x Ht0 Ht ht ⟨st, ps, gC, pr⟩ ⟨rfl, hxt⟩
                    rw [List.getElem?_map] at hxt
                    cases hxx : (kids z rss y)[t]? with
                    | none =>
                      rw [hxx] at hxt
                      cases hxt
                    | some x1 =>
                      rw [hxx] at hxt
                      obtain rfl : V.str x1 = x := Option.some.inj hxt
                      have lps : ps.length ≤ 4 := by have := paired_len pr; rw [List.length_map, List.length_take] at this; omega
                      refine ⟨rfl, _, rfl, (by show 2 ≤ sizeLine; decide), fun T2 hT2 => ?_⟩
                      have nCT : C ≠ T2 := ne_of_none gC hT2
                      refine ⟨ps.map V.ref, by rw [upd_ne nCT]; exact gC, (by rw [List.length_map, sz]; omega), (st.upd (st.none hT2)).upd hC, ps ++ [T2], by rw [upd_same, List.map_append]; rfl, ?_⟩
                      rw [take_snoc hxx, List.map_append]
                      refine paired_snoc (paired_map pr fun p kv e => ?_) ?_
                      · rw [upd_ne (ne_of e gC (by intro q; cases q)), upd_ne (ne_of_none e hT2)]
                        exact e
                      · rw [upd_ne (Ne.symm nCT), upd_same]
                        rfl
                  · rintro Ht ⟨st, ps, gC, pr⟩
                    rw [List.length_map, List.take_length] at pr
                    refine ⟨C, ps, _, rfl, SqL.of gC, paired_map pr (fun p kv e => SqT.of e), fun M hM => ?_⟩
                    have gWt := st _ _ gW2
                    have nWM : Wt ≠ M := ne_of_none gWt hM
                    obtain ⟨ks2, q1, q2, q3, q4⟩ := merge_tells (g := fun _ => V.bl true) (ms := kids z rss y) (kvs := []) (ks := []) ⟨rfl, List.nodup_nil⟩ (fun _ h => nomatch h)
                    generalize mergeK [] ((kids z rss y).map fun x => ((Sum.inr x : Key), V.bl true)) = km at q1 q3 ⊢
                    have lkm : km.length ≤ 4 := by rw [q1.len]; rw [List.length_nil] at q4; omega
                    have ekm : km = ks2.map fun x => ((Sum.inr x : Key), V.bl true) := by
                      have e1 := q1.1
                      have e3 : ∀ kv ∈ km, kv.2 = V.bl true := fun kv hkv => by
                        obtain ⟨kk, vv⟩ := kv
                        have hk : kk ∈ km.map (·.1) := List.mem_map.mpr ⟨_, hkv, rfl⟩
                        rw [e1] at hk
                        obtain ⟨x, hx, ex⟩ := List.mem_map.mp hk
                        have nd1 : (km.map (·.1)).Nodup := by
                          rw [e1]
                          exact List.Pairwise.map _ (fun a b hab q => hab (Sum.inr.inj q)) q1.2
                        have := q3 x hx
                        rw [ex] at this
                        have h4 : valV km kk = some vv := by
                          clear q1 q2 q3 q4 e1 lkm hk this pr gC
                          induction km with
                          | nil => cases hkv
                          | cons p r ih =>
                            rw [List.map_cons] at nd1
                            obtain ⟨n1, n2⟩ := List.nodup_cons.mp nd1
                            rcases List.mem_cons.mp hkv with q | q
                            · rw [← q]
                              exact valV_pos rfl
                            · rw [valV_neg (fun e => n1 (by rw [e]; exact List.mem_map.mpr ⟨_, q, rfl⟩))]
                              exact ih q n2
                        rw [h4] at this
                        exact Option.some.inj this
                      have e4 : km = (km.map (·.1)).map fun k => (k, V.bl true) := by
                        rw [List.map_map]
                        conv => lhs; rw [← List.map_id km]
                        refine List.map_congr_left fun kv hkv => ?_
                        show kv = (kv.1, V.bl true)
                        rw [← e3 kv hkv]
                      rw [e4, e1, List.map_map]
                      rfl
                    have lksN : ks.length ≤ N.length := nodup_sub hks.2 fun x hx => by
                      rcases (hwt x).mp hx with q | ⟨u, hu, _, _, hk⟩
                      · exact bf.mem.mpr (.inl q)
                      · obtain ⟨hsu, c, hc, e⟩ := mem_kids.mp hk
                        exact bf.mem.mpr (.inr ⟨u, by rw [List.take_length]; exact List.mem_of_mem_take hu, hsu, c, hc, e⟩)
                    refine ⟨Wt, M, kvs, km, rfl, rfl, by rw [upd_ne nWM]; exact gWt, upd_same, nWM, (by rw [hks.len, sz]; omega), ?_⟩
                    obtain ⟨ks3, r1, r2, r3, r4⟩ := merge_tells (g := fun _ => V.bl true) (ms := ks2) hks hvk
                    have lk2 : ks2.length ≤ 4 := by rw [← q1.len]; exact lkm
                    have sEnd : Same Hn (upd (upd Ht M (.dK km)) Wt (.dK (mergeK kvs km))) := ((sj2.trans st).upd (o := .dK km) ((sj2.trans st).none hM)).upd hWt0
                    rw [ekm] at sEnd ⊢
                    refine ⟨_, _, ws ++ [.ref T], _, ks3, rfl, sEnd, ?_, RulesAt.imp hw2 fun t a e => ?_, upd_same, r1, r3, fun x => ?_, by omega⟩
                    · have := st _ _ gF2
                      rw [upd_ne nFW, upd_ne (ne_of_none this hM)]
                      exact this
                    · have := st _ _ e
                      rw [upd_ne (ne_of this gWt (by intro q; cases q)), upd_ne (ne_of_none this hM)]
                      exact this
                    · rw [r2, q2, hwt x, etk, waits_snoc hcell he]
                      exact ⟨fun q => q.elim .inl fun q => q.elim (fun q => (nomatch q)) .inr, fun q => q.elim .inl fun q => .inr (.inr q)⟩
              · rw [decide_eq_false hyk]
                refine iteF ?_
                have hn : ¬ isCell z rss y = true := fun q => hyk ((hwt y).mpr ((waits_cell bf hy).mpr q))
                refine ⟨_, _, ws, kvs, ks, rfl, sj, gFj, ?_, gWj, hks, hvk, fun x => ?_, by omega⟩
                · have e : lawCells z rss (N.take (j + 1)) = lawCells z rss (N.take j) := by
                    unfold lawCells
                    rw [etk, List.filter_append, List.map_append, List.filter_cons, if_neg hn]
                    exact List.append_nil _
                  rw [e]
                  exact hws
                · rw [hwt x, etk]
                  exact (waits_skip fun q => hn q.1).symm
          · rintro σ Hj ⟨o5, o8, ws, kvs, ks, rfl, sj, gFj, hws, gWj, hks, hvk, hwt, lks⟩
            rw [List.length_map, List.take_length] at hws
            exact ⟨_, rfl, k Hj Fd ws N (sHn.trans sj) (sHn.none hFd) gFj bf hws (by omega)⟩
end
end K23
namespace K23
open PySem PySem.Spec PyProof.Rows L2 FL
/-! ### small relays -/
structure Dl (z : Str) (rs : List Rule) : Prop where
  few : rs.length ≤ 9
  ok : ∀ r ∈ rs, RuleOk z 6 r
theorem Dl.rok {z : Str} {rs : List Rule} (h : Dl z rs) : ROk z rs := ⟨Nat.le_trans h.few (by decide), fun r hr => (h.ok r hr).mono (by decide)⟩
theorem Dl.un {z : Str} {rs : List Rule} (h : Dl z rs) {us : List Str} (hu : UnOk z rs us) : us.length ≤ 63 := by
  have q1 := un_count (M := 6) hu fun r hr => (h.ok r hr).o2
  have := h.few
  omega
theorem Dl.fw {z : Str} {rs : List Rule} (az : Abc z) (h : Dl z rs) : Few z rs := fun us hu => by
  have h1 := h.un hu
  have h3 := az.hi
  have h4 : us.length * z.length ≤ 63 * 4 := Nat.mul_le_mul h1 h3
  omega
theorem Alike.symm {z : Str} {rs1 rs2 : List Rule} (h : Alike z rs1 rs2) : Alike z rs2 rs1 := fun y o => (h y o).symm
theorem few_alike {z : Str} {rs rs' : List Rule} (h1 : ROk z rs) (h2 : ROk z rs') (ha : Alike z rs rs') (f : Few z rs) : Few z rs' := fun us hu => f us (alike_un h2 h1 ha.symm hu)
theorem Dl.cells {z : Str} {rs cs : List Rule} (az : Abc z) (h : Dl z rs) (t : TabIs z rs cs) : cs.length ≤ 316 ∧ ∀ c ∈ cs, RuleOk z 13 c ∧ c.old.length ≤ 7 := by
  refine ⟨?_, fun r hr => ?_⟩
  · obtain ⟨us, hu, _, rfl⟩ := t
    have q1 := h.un hu
    have q2 := keys2_len (us := us) az.hi
    have q3 : (cellsL z [rs] us).length = (keys2 z us).length := by unfold cellsL; rw [List.length_map, ordL_len]
    omega
  · obtain ⟨u1, _, u3, _⟩ := cell_ok h.rok t hr
    have hm : r.old ∈ olds cs := List.mem_map.mpr ⟨r, hr, rfl⟩
    have hcell := (tab_mem t _).mp hm
    have lo : r.old.length ≤ 7 := by
      rw [str_len]
      exact cell_max (M := 6) (fun r hr => (h.ok r hr).o2) hcell
    have e := cell_new t hr
    have ln := turn_len (rs := rs) (y := r.old) (b := 6) fun r hr => (h.ok r hr).n2
    rw [← e] at ln
    exact ⟨⟨u1, by omega, u3, by omega⟩, lo⟩
theorem Dl.sub {z : Str} {rs cs rs' : List Rule} (az : Abc z) (h : Dl z rs) (t : TabIs z rs cs) (h1 : ∀ r ∈ rs', r ∈ cs) (hl : rs'.length ≤ cs.length) : ROk z rs' := by
  obtain ⟨l, ok⟩ := h.cells az t
  exact ⟨by omega, fun r hr => (ok r (h1 r hr)).1.mono (by decide)⟩
/-! ### just one cell fits -/
theorem cells_kind {z : Str} {rs cs : List Rule} (t : TabIs z rs cs) {c : Rule} (hc : c ∈ cs) : (c.fr = true ↔ Evn (ls z) (tL rs) (ls c.old)) ∧ Cell (ls z) (tL rs) (ls c.old) ∧ c.new = turn rs c.old := by
  refine ⟨?_, (tab_mem t _).mp (List.mem_map.mpr ⟨c, hc, rfl⟩), cell_new t hc⟩
  obtain ⟨us, hu, _, rfl⟩ := t
  obtain ⟨l, _, rfl⟩ := List.mem_map.mp hc
  show decide (l ∉ us) = true ↔ Evn (ls z) (tL rs) (ls l)
  rw [decide_eq_true_eq, hu.mem]
  exact ⟨fun h => Classical.byContradiction h, fun h q => q h⟩
theorem evn_kind {z : Str} {rs cs : List Rule} (t : TabIs z rs cs) {c d : Rule} (hc : c ∈ cs) (hd : d ∈ cs) (e : c.old = d.old) : c = d := by
  obtain ⟨h1, _, h3⟩ := cells_kind t hc
  obtain ⟨g1, _, g3⟩ := cells_kind t hd
  obtain ⟨f, o, n⟩ := c
  obtain ⟨f', o', n'⟩ := d
  dsimp only at e h1 h3 g1 g3
  subst e
  have ef : f = f' := by
    cases f <;> cases f'
    · rfl
    · exact h1.mpr (g1.mp rfl)
    · exact (g1.mpr (h1.mp rfl)).symm
    · rfl
  rw [ef, h3, g3]
theorem not_cell_below {z : Lns} {F : Lns → Lns} {u l : Lns} (hv : Evn z F u) (hp : u <+: l) (hne : u ≠ l) (hz : ∀ c ∈ l, c ∈ z) : ¬ Cell z F l := fun hc => by
  obtain ⟨s, hs⟩ := hp
  have hsz : ∀ c ∈ s, c ∈ z := fun c hcs => hz c (by rw [← hs]; exact List.mem_append_right _ hcs)
  rcases hc with q | q | ⟨u', c, _, q, hn⟩
  · rw [q] at hs
    obtain ⟨e1, _⟩ := List.append_eq_nil_iff.mp hs
    exact hne (by rw [e1, q])
  · exact q (by rw [← hs]; exact hv.down hsz)
  · have hsn : s ≠ [] := fun e => hne (by rw [← hs, e, List.append_nil])
    have e2 : s = s.dropLast ++ [s.getLast hsn] := (List.dropLast_concat_getLast hsn).symm
    rw [q, e2, ← List.append_assoc] at hs
    obtain ⟨e3, _⟩ := List.append_inj' hs rfl
    refine hn ?_
    rw [← e3]
    exact hv.down fun d hd => hsz d (List.dropLast_subset _ hd)
theorem fit_one {z : Str} {rs cs : List Rule} (hov : ∀ r ∈ rs, Over z r.old) (t : TabIs z rs cs) {y : Str} (ho : Over z y) : ∃ c ∈ cs, fits c y = true ∧ turnR c y = turn rs y ∧ ∀ d ∈ cs, fits d y = true → d = c := by
  have val : ∀ c ∈ cs, fits c y = true → turnR c y = turn rs y := fun c hc hf => by
    obtain ⟨h1, _, h3⟩ := cells_kind t hc
    cases hfr : c.fr with
    | false =>
      have ey : y = c.old := by unfold fits at hf; rw [hfr] at hf; exact of_decide_eq_true hf
      unfold turnR
      rw [hfr, h3, ← ey]
    | true =>
      obtain ⟨s, hs⟩ := (fits_front hfr).mp hf
      have ev := h1.mp hfr
      obtain ⟨f, o, n⟩ := c
      dsimp only at hfr hs ev h3
      subst hfr
      apply ls_inj
      rw [front_turn, ← hs, List.drop_left, FL.turn_list, ← hs, ev s fun c hc => ho c (by show c ∈ ls y; rw [← hs]; exact List.mem_append_right _ hc), h3, FL.turn_list]
  have uniq : ∀ c ∈ cs, ∀ d ∈ cs, fits c y = true → fits d y = true → c.old.length ≤ d.old.length → d = c := fun c hc d hd hfc hfd hle => by
    obtain ⟨c1, c2, _⟩ := cells_kind t hc
    obtain ⟨d1, d2, _⟩ := cells_kind t hd
    have pc : ls c.old <+: ls y := by
      cases hfr : c.fr with
      | true => exact (fits_front hfr).mp hfc
      | false =>
        unfold fits at hfc
        rw [hfr] at hfc
        rw [show y = c.old from of_decide_eq_true hfc]
        exact List.prefix_rfl
    have pd : ls d.old <+: ls y := by
      cases hfr : d.fr with
      | true => exact (fits_front hfr).mp hfd
      | false =>
        unfold fits at hfd
        rw [hfr] at hfd
        rw [show y = d.old from of_decide_eq_true hfd]
        exact List.prefix_rfl
    have pcd : ls c.old <+: ls d.old := List.prefix_of_prefix_length_le pc pd (by rw [str_len, str_len] at hle; exact hle)
    refine (evn_kind t hc hd (Classical.byContradiction fun hne => ?_)).symm
    have hne' : ls c.old ≠ ls d.old := fun e => hne (ls_inj e)
    cases hfr : c.fr with
    | true => exact not_cell_below (c1.mp hfr) pcd hne' (cell_over hov d2) d2
    | false =>
      unfold fits at hfc
      rw [hfr] at hfc
      have ey : y = c.old := of_decide_eq_true hfc
      rw [ey] at pd
      exact hne' (pcd.eq_of_length (Nat.le_antisymm pcd.length_le pd.length_le))
  have ex : ∃ c ∈ cs, fits c y = true := by
    rcases cell_of (z := ls z) (F := tL rs) _ (ls y) rfl ho with q | ⟨u, s, e, ev, hc⟩
    · have hm : y ∈ olds cs := (tab_mem t y).mpr (.inr (.inl q))
      obtain ⟨c, hc, eo⟩ := List.mem_map.mp hm
      have hfr : c.fr = false := by
        cases hfr : c.fr with
        | false => rfl
        | true =>
          have := (cells_kind t hc).1.mp hfr
          rw [eo] at this
          exact absurd this q
      refine ⟨c, hc, ?_⟩
      unfold fits
      rw [hfr]
      exact decide_eq_true eo.symm
    · have hm : st u ∈ olds cs := (tab_mem t (st u)).mpr hc
      obtain ⟨c, hcm, eo⟩ := List.mem_map.mp hm
      have hfr : c.fr = true := (cells_kind t hcm).1.mpr (by rw [eo]; exact ev)
      refine ⟨c, hcm, (fits_front hfr).mpr ?_⟩
      rw [eo]
      show u <+: ls y
      rw [e]
      exact List.prefix_append _ _
  obtain ⟨c, hc, hf⟩ := ex
  refine ⟨c, hc, hf, val c hc hf, fun d hd hfd => ?_⟩
  rcases Nat.le_total c.old.length d.old.length with h | h
  · exact uniq c hc d hd hf hfd h
  · exact (uniq d hd c hc hfd hf h).symm
theorem olds_nodup {z : Str} {rs cs : List Rule} (t : TabIs z rs cs) : cs.Nodup := by
  obtain ⟨us, _, _, rfl⟩ := t
  have h : (olds (cellsL z [rs] us)).Nodup := by
    rw [olds_cells]
    exact (ordL_perm _).symm.nodup (nd_keys2 z us)
  have h2 : (olds (cellsL z [rs] us)).Pairwise (· ≠ ·) := h
  unfold olds at h2
  exact (List.pairwise_map.mp h2).imp fun {a b} q e => q (by rw [e])
theorem filter_one {α : Type} {p : α → Bool} {c : α} : ∀ {l : List α}, l.Nodup → c ∈ l → p c = true → (∀ d ∈ l, p d = true → d = c) → l.filter p = [c]
  | [], _, h, _, _ => nomatch h
  | x :: l, hn, hc, hp, hu => by
    obtain ⟨n1, n2⟩ := List.nodup_cons.mp hn
    rcases List.mem_cons.mp hc with e | hc'
    · subst e
      rw [List.filter_cons, if_pos hp]
      have : l.filter p = [] := List.filter_eq_nil_iff.mpr fun d hd q => n1 (by rw [← hu d (List.mem_cons_of_mem _ hd) q]; exact hd)
      rw [this]
    · have hx : ¬ p x = true := fun q => n1 (by rw [hu x List.mem_cons_self q]; exact hc')
      rw [List.filter_cons, if_neg hx]
      exact filter_one n2 hc' hp fun d hd => hu d (List.mem_cons_of_mem _ hd)
theorem fit_list {z : Str} {rs cs : List Rule} (hov : ∀ r ∈ rs, Over z r.old) (t : TabIs z rs cs) {y : Str} (ho : Over z y) : (cs.filter fun c => fits c y).map (fun c => turnR c y) = [turn rs y] := by
  obtain ⟨c, h1, h2, h3, h4⟩ := fit_one hov t ho
  rw [filter_one (p := fun c => fits c y) (olds_nodup t) h1 h2 h4, List.map_cons, h3]
  rfl
/-! ### what is not even is seen to be so at a cell -/
theorem far_at {z : Lns} {rs : List Rule} {M : Nat} (hM : ∀ r ∈ rs, r.old.length ≤ M) : ∀ (n : Nat) (u : Lns), M + 1 - u.length = n → ¬ Evn z (tL rs) u → ∃ w, w ≠ [] ∧ (∀ c ∈ w, c ∈ z) ∧ tL rs (u ++ w) ≠ tL rs u ++ w ∧ Cell z (tL rs) (u ++ w) := by
  intro n
  induction n with
  | zero =>
    intro u hn hv
    have := asked_max hM hv
    omega
  | succ n ih =>
    intro u hn hv
    have hex : ∃ c, c ∈ z ∧ (¬ Evn z (tL rs) (u ++ [c]) ∨ tL rs (u ++ [c]) ≠ tL rs u ++ [c]) := Classical.byContradiction fun hno => hv (evn_step.mpr fun c hc => by
      refine ⟨Classical.byContradiction fun q => hno ⟨c, hc, .inl q⟩, Classical.byContradiction fun q => hno ⟨c, hc, .inr q⟩⟩)
    obtain ⟨c, hc, hcc⟩ := hex
    by_cases hp : tL rs (u ++ [c]) = tL rs u ++ [c]
    · have hv2 : ¬ Evn z (tL rs) (u ++ [c]) := hcc.elim id fun q => absurd hp q
      obtain ⟨w, w1, w2, w3, w4⟩ := ih (u ++ [c]) (by rw [List.length_append]; show M + 1 - (u.length + 1) = n; omega) hv2
      refine ⟨c :: w, (fun e => nomatch e), fun d hd => ?_, ?_, ?_⟩
      · rcases List.mem_cons.mp hd with e | hd
        · rw [e]; exact hc
        · exact w2 d hd
      · intro q
        apply w3
        rw [List.append_assoc, hp, List.append_assoc]
        exact q
      · rw [List.append_assoc] at w4
        exact w4
    · exact ⟨[c], (fun e => nomatch e), fun d hd => by rw [List.mem_singleton.mp hd]; exact hc, hp, .inr (.inr ⟨u, c, hc, rfl, hv⟩)⟩
theorem pre_whole {z : Str} {rs cs : List Rule} (hov : ∀ r ∈ rs, Over z r.old) (t : TabIs z rs cs) {c : Rule} (hc : c ∈ cs) {n : Nat} (hn : n < c.old.length) : ∃ d ∈ cs, d.fr = false ∧ d.old = cutS c.old none (some ((n : Nat) : Int)) := by
  obtain ⟨_, h2, _⟩ := cells_kind t hc
  have hz := cell_over hov h2
  have hnl : n < (ls c.old).length := by rw [str_len] at hn; exact hn
  have hne : (ls c.old).take n ≠ ls c.old := fun e => by
    have := congrArg List.length e
    rw [List.length_take] at this
    omega
  have hv : ¬ Evn (ls z) (tL rs) ((ls c.old).take n) := fun ev => not_cell_below ev (List.take_prefix _ _) hne hz h2
  have hm : st ((ls c.old).take n) ∈ olds cs := (tab_mem t _).mpr (.inr (.inl hv))
  obtain ⟨d, hd, eo⟩ := List.mem_map.mp hm
  refine ⟨d, hd, ?_, ?_⟩
  · cases hfr : d.fr with
    | false => rfl
    | true =>
      have := (cells_kind t hd).1.mp hfr
      rw [eo] at this
      exact absurd this hv
  · apply ls_inj
    rw [cut_take, eo]
/-! ### a front split into its signs -/
theorem turn_app {A B : List Rule} {y : Str} : turn (A ++ B) y = if (∃ r ∈ A, fits r y = true) then turn A y else turn B y := by
  induction A with
  | nil =>
    rw [if_neg (fun ⟨_, h, _⟩ => (nomatch h))]
    rfl
  | cons a A ih =>
    show (if fits a y = true then turnR a y else turn (A ++ B) y) = _
    by_cases h : fits a y = true
    · rw [if_pos h, if_pos ⟨a, List.mem_cons_self, h⟩]
      show _ = (if fits a y = true then turnR a y else turn A y)
      rw [if_pos h]
    · rw [if_neg h, ih]
      have e : (∃ r ∈ a :: A, fits r y = true) ↔ ∃ r ∈ A, fits r y = true := ⟨fun ⟨r, hr, hf⟩ => by
        rcases List.mem_cons.mp hr with rfl | hr
        · exact absurd hf h
        · exact ⟨r, hr, hf⟩, fun ⟨r, hr, hf⟩ => ⟨r, List.mem_cons_of_mem _ hr, hf⟩⟩
      show _ = (if (∃ r ∈ a :: A, fits r y = true) then (if fits a y = true then turnR a y else turn A y) else turn B y)
      rw [if_neg h]
      by_cases q : ∃ r ∈ A, fits r y = true
      · rw [if_pos q, if_pos (e.mpr q)]
      · rw [if_neg q, if_neg (fun z => q (e.mp z))]
theorem split_alike {z : Str} {A B Ps : List Rule} {old new : Str} (hp : ∀ r, r ∈ Ps ↔ r = ⟨false, old, new⟩ ∨ ∃ c ∈ ls z, r = ⟨true, old ++ sg1 c, new ++ sg1 c⟩) : Alike z (A ++ ⟨true, old, new⟩ :: B) (A ++ (Ps ++ B)) := by
  intro y ho
  rw [turn_app, turn_app (A := A)]
  by_cases q : ∃ r ∈ A, fits r y = true
  · rw [if_pos q, if_pos q]
  · rw [if_neg q, if_neg q, turn_app (A := Ps)]
    show (if fits ⟨true, old, new⟩ y = true then turnR ⟨true, old, new⟩ y else turn B y) = _
    by_cases hf : fits ⟨true, old, new⟩ y = true
    · rw [if_pos hf]
      obtain ⟨s, hs⟩ := (fits_front (r := ⟨true, old, new⟩) rfl).mp hf
      have hs : ls old ++ s = ls y := hs
      have val : ∀ r ∈ Ps, fits r y = true → turnR r y = turnR ⟨true, old, new⟩ y := fun r hr hfr => by
        apply ls_inj
        rw [front_turn (l := old), ← hs, List.drop_left]
        rcases (hp r).mp hr with e | ⟨c, hc, e⟩
        · subst e
          have ey : y = old := of_decide_eq_true hfr
          have es : s = [] := by
            rw [ey] at hs
            exact List.append_right_eq_self.mp hs
          rw [es, List.append_nil]
          rfl
        · subst e
          obtain ⟨s2, hs2⟩ := (fits_front (r := ⟨true, old ++ sg1 c, new ++ sg1 c⟩) rfl).mp hfr
          have hs2 : ls (old ++ sg1 c) ++ s2 = ls y := hs2
          rw [front_turn, ← hs2, List.drop_left, ls_sg1]
          rw [ls_sg1, List.append_assoc] at hs2
          have e3 := List.append_cancel_left (hs.trans hs2.symm)
          rw [e3, List.append_assoc]
      have exq : ∃ r ∈ Ps, fits r y = true := by
        cases s with
        | nil =>
          refine ⟨_, (hp _).mpr (.inl rfl), ?_⟩
          rw [List.append_nil] at hs
          exact decide_eq_true (ls_inj hs.symm)
        | cons c s =>
          have hc : c ∈ ls z := ho c (by show c ∈ ls y; rw [← hs]; exact List.mem_append_right _ List.mem_cons_self)
          refine ⟨_, (hp _).mpr (.inr ⟨c, hc, rfl⟩), (fits_front (r := ⟨true, old ++ sg1 c, new ++ sg1 c⟩) rfl).mpr ?_⟩
          show ls (old ++ sg1 c) <+: ls y
          rw [ls_sg1, ← hs]
          exact ⟨s, by rw [List.append_assoc]; rfl⟩
      rw [if_pos exq]
      exact (turn_all val (.inl exq)).symm
    · rw [if_neg hf]
      have nq : ¬ ∃ r ∈ Ps, fits r y = true := fun ⟨r, hr, hfr⟩ => hf ((fits_front (r := ⟨true, old, new⟩) rfl).mpr (by
        show ls old <+: ls y
        rcases (hp r).mp hr with e | ⟨c, hc, e⟩
        · subst e
          rw [show y = old from of_decide_eq_true hfr]
          exact List.prefix_rfl
        · subst e
          have := (fits_front (r := ⟨true, old ++ sg1 c, new ++ sg1 c⟩) rfl).mp hfr
          have h2 : ls (old ++ sg1 c) <+: ls y := this
          rw [ls_sg1] at h2
          exact (List.prefix_append _ _).trans h2))
      rw [if_neg nq]
end K23
namespace K23
open PySem PySem.Spec PyProof.Rows L2 FL
/-! ### several relays, one after another: their uneven lines and cells -/
theorem tL_back {z : Lns} : ∀ {rs : List Rule} {l : Lns}, (∀ r ∈ rs, ∀ c ∈ ls r.old, c ∈ z) → (∀ c ∈ tL rs l, c ∈ z) → ∀ c ∈ l, c ∈ z
  | [], _, _, h => h
  | r :: rs, l, hov, h => by
    have ih := tL_back (z := z) (rs := rs) (l := l) fun r' hr' => hov r' (List.mem_cons_of_mem _ hr')
    have h0 := hov r List.mem_cons_self
    unfold tL at h
    cases e : r.fr with
    | true =>
      rw [e] at h
      simp only at h
      by_cases hp : ls r.old <+: l
      · rw [if_pos hp] at h
        have e2 := List.prefix_iff_eq_append.mp hp
        intro c hc
        rw [← e2] at hc
        rcases List.mem_append.mp hc with q | q
        · exact h0 c q
        · exact h c (List.mem_append_right _ q)
      · rw [if_neg hp] at h
        exact ih h
    | false =>
      rw [e] at h
      simp only at h
      by_cases hp : l = ls r.old
      · rw [hp]
        exact h0
      · rw [if_neg hp] at h
        exact ih h
/-- all olds are over z -/
def OvS (z : Str) (rss : List (List Rule)) : Prop := ∀ rs ∈ rss, ∀ r ∈ rs, Over z r.old
theorem short_over {z : Str} : ∀ {rss : List (List Rule)} {y : Str}, OvS z rss → shortB rss y = true → Over z y
  | [], _, _, h => nomatch h
  | rs :: rss, y, hov, h => by
    rcases Bool.or_eq_true_iff.mp h with h1 | h1
    · obtain ⟨r, hr, q1, _⟩ := looks_iff.mp h1
      exact fun c hc => hov rs List.mem_cons_self r hr c (q1.subset hc)
    · have ih := short_over (fun rs' h' => hov rs' (List.mem_cons_of_mem _ h')) h1
      have ih2 : ∀ c ∈ tL rs (ls y), c ∈ ls z := by
        rw [← FL.turn_list]
        exact ih
      exact tL_back (fun r hr => hov rs List.mem_cons_self r hr) ih2
structure UnS (z : Str) (rss : List (List Rule)) (us : List Str) : Prop where
  nd : us.Nodup
  mem : ∀ u, u ∈ us ↔ ¬ Evn (ls z) (tLs rss) (ls u)
theorem uns_over {z : Str} {rss : List (List Rule)} (hov : OvS z rss) {u : Str} (h : ¬ Evn (ls z) (tLs rss) (ls u)) : Over z u := by
  cases e : shortB rss u with
  | false => exact absurd (far_evn e) h
  | true => exact short_over hov e
theorem UnOk.uns {z : Str} {rs us : _} (h : UnOk z rs us) : UnS z [rs] us := ⟨h.nd, h.mem⟩
theorem UnS.unok {z : Str} {rs : List Rule} {us : List Str} (h : UnS z [rs] us) : UnOk z rs us := ⟨h.nd, h.mem⟩
theorem uns_perm {z : Str} {rss : List (List Rule)} {us vs : List Str} (h1 : UnS z rss us) (h2 : UnS z rss vs) : us.Perm vs :=
  (List.perm_ext_iff_of_nodup h1.nd h2.nd).mpr fun u => (h1.mem u).trans (h2.mem u).symm
theorem keys_same {z : Str} {us vs : List Str} (e : ∀ u, u ∈ us ↔ u ∈ vs) : ordL (keys2 z us) = ordL (keys2 z vs) := by
  refine ordL_of (nd_keys2 _ _) (nd_keys2 _ _) fun b => ?_
  rw [mem_keys2, mem_keys2, e b]
  constructor
  · rintro (h | ⟨u, hu, h⟩ | h)
    · exact .inl h
    · exact .inr (.inl ⟨u, (e u).mp hu, h⟩)
    · exact .inr (.inr h)
  · rintro (h | ⟨u, hu, h⟩ | h)
    · exact .inl h
    · exact .inr (.inl ⟨u, (e u).mpr hu, h⟩)
    · exact .inr (.inr h)
theorem key_over {z : Str} {rss : List (List Rule)} (hov : OvS z rss) {us : List Str} (h : UnS z rss us) {l : Str} (hl : l ∈ keys2 z us) : Over z l := by
  rcases mem_keys2.mp hl with q | ⟨u, hu, c, hc, q⟩ | q
  · rw [q]
    exact fun c hc => by
      rw [show (Str.ofString "").cps.toList = [] by decide +kernel] at hc
      cases hc
  · rw [q]
    exact over_app (uns_over hov ((h.mem u).mp hu)) (over_one hc)
  · exact uns_over hov ((h.mem l).mp q)
/-- equal on all lines of the signs -/
def AlS (z : Str) (rss rss' : List (List Rule)) : Prop := ∀ y, Over z y → thr rss y = thr rss' y
theorem AlS.list {z : Str} {rss rss' : List (List Rule)} (h : AlS z rss rss') : ∀ l, (∀ c ∈ l, c ∈ ls z) → tLs rss l = tLs rss' l := fun l hl => by
  have e := congrArg ls (h (st l) hl)
  rw [thr_list, thr_list] at e
  exact e
theorem AlS.symm {z : Str} {rss rss' : List (List Rule)} (h : AlS z rss rss') : AlS z rss' rss := fun y o => (h y o).symm
theorem AlS.trans {z : Str} {a b c : List (List Rule)} (h : AlS z a b) (g : AlS z b c) : AlS z a c := fun y o => (h y o).trans (g y o)
theorem uns_congr {z : Str} {rss rss' : List (List Rule)} (h1 : OvS z rss) (h2 : OvS z rss') (a : AlS z rss rss') {us : List Str} (h : UnS z rss us) : UnS z rss' us := by
  refine ⟨h.nd, fun u => ?_⟩
  rw [h.mem u]
  by_cases ho : Over z u
  · exact not_congr (Evn.congr ho a.list)
  · exact ⟨fun q => absurd (uns_over h1 q) ho, fun q => absurd (uns_over h2 q) ho⟩
theorem cells_congr {z : Str} {rss rss' : List (List Rule)} (h1 : OvS z rss) (a : AlS z rss rss') {us vs : List Str} (h : UnS z rss us) (e : ∀ u, u ∈ us ↔ u ∈ vs) : cellsL z rss us = cellsL z rss' vs := by
  unfold cellsL
  rw [keys_same e]
  refine List.map_congr_left fun l hl => ?_
  have ho := key_over h1 h (by rw [← mem_ordL, keys_same e]; exact hl)
  have : (l ∉ us) ↔ (l ∉ vs) := not_congr (e l)
  rw [decide_eq_decide.mpr this, a l ho]
theorem cellsS_same {z : Str} {rss : List (List Rule)} (hov : OvS z rss) {us vs : List Str} (h1 : UnS z rss us) (h2 : UnS z rss vs) : cellsL z rss us = cellsL z rss vs :=
  cells_congr hov (fun _ _ => rfl) h1 fun u => (h1.mem u).trans (h2.mem u).symm
theorem evenB_iffS {z y : Str} {rss : List (List Rule)} {us : List Str} : evenB z rss y us = true ↔ ∀ c ∈ ls z, y ++ sg c ∉ us ∧ tLs rss (ls y ++ [c]) = tLs rss (ls y) ++ [c] := by
  unfold evenB
  rw [List.all_eq_true]
  have key : ∀ c, okSign rss y us c = true ↔ (y ++ sg c ∉ us ∧ tLs rss (ls y ++ [c]) = tLs rss (ls y) ++ [c]) := fun c => by
    unfold okSign
    rw [Bool.and_eq_true, decide_eq_true_eq, decide_eq_true_eq]
    have e : (thr rss (y ++ sg c) = thr rss y ++ sg c) ↔ tLs rss (ls y ++ [c]) = tLs rss (ls y) ++ [c] := by
      have e1 : ls (thr rss (y ++ sg c)) = tLs rss (ls y ++ [c]) := by rw [thr_list, ls_sg]
      have e2 : ls (thr rss y ++ sg c) = tLs rss (ls y) ++ [c] := by rw [ls_sg, thr_list]
      constructor
      · intro h
        rw [← e1, ← e2, h]
      · intro h
        apply ls_inj
        rw [e1, e2, h]
    rw [e]
  exact ⟨fun h c hc => (key c).mp (h c hc), fun h c hc => (key c).mpr (h c hc)⟩
/-! ### the product's uneven lines -/
theorem evn2 {z : Str} {r1 r2 : List Rule} {l e : Lns} (ev : Evn (ls z) (tL r1) l) (he : ∀ c ∈ e, c ∈ ls z) : Evn (ls z) (tLs [r1, r2]) (l ++ e) ↔ Evn (ls z) (tL r2) (tL r1 l ++ e) := by
  refine forall_congr' fun s => forall_congr' fun hs => ?_
  show tL r2 (tL r1 (l ++ e ++ s)) = tL r2 (tL r1 (l ++ e)) ++ s ↔ _
  rw [List.append_assoc, ev (e ++ s) (fun c hc => (List.mem_append.mp hc).elim (he c) (hs c)), ev e he, ← List.append_assoc]
/-- what is known: behind the front cells of the first one -/
structure KnOk (z : Str) (r1 r2 : List Rule) (kn : List Str) : Prop where
  nd : kn.Nodup
  mem : ∀ x, x ∈ kn ↔ ∃ l e, ls x = l ++ e ∧ (∀ c ∈ e, c ∈ ls z) ∧ Cell (ls z) (tL r1) l ∧ Evn (ls z) (tL r1) l ∧ ¬ Evn (ls z) (tL r2) (tL r1 l ++ e)
theorem KnOk.un {z : Str} {r1 r2 : List Rule} {kn : List Str} (h : KnOk z r1 r2 kn) {x : Str} (hx : x ∈ kn) : ¬ Evn (ls z) (tLs [r1, r2]) (ls x) := by
  obtain ⟨l, e, q, he, _, ev, hn⟩ := (h.mem x).mp hx
  rw [q, evn2 ev he]
  exact hn
theorem prod_uneven {z : Str} {r1 r2 : List Rule} {us1 kn : List Str} (hov : OvS z [r1, r2]) (h1 : UnOk z r1 us1) (hk : KnOk z r1 r2 kn) :
    UnS z [r1, r2] (unevenL z [r1, r2] (ordL us1) kn) ∧ (unevenL z [r1, r2] (ordL us1) kn).length ≤ kn.length + us1.length := by
  have hR : ∀ b, b ∈ (ordL us1).reverse ↔ ¬ Evn (ls z) (tL r1) (ls b) := fun b => by rw [List.mem_reverse, mem_ordL, h1.mem]
  have hs : (ordL us1).reverse.Pairwise fun a b => lineLe b a = true := List.pairwise_reverse.mpr (ordL_sorted us1)
  have hl : (ordL us1).reverse.length = us1.length := by rw [List.length_reverse, ordL_len]
  have e0 : unevenL z [r1, r2] (ordL us1) kn = (ordL us1).reverse.foldl (stepU z [r1, r2]) kn := rfl
  rw [e0, ← hl]
  generalize (ordL us1).reverse = R at hR hs
  have main : ∀ n, n ≤ R.length → ((R.take n).foldl (stepU z [r1, r2]) kn).Nodup ∧ ((R.take n).foldl (stepU z [r1, r2]) kn).length ≤ kn.length + n ∧ ∀ u, u ∈ (R.take n).foldl (stepU z [r1, r2]) kn ↔ (u ∈ R.take n ∧ ¬ Evn (ls z) (tLs [r1, r2]) (ls u)) ∨ u ∈ kn := by
    intro n
    induction n with
    | zero =>
      intro _
      rw [List.take_zero]
      exact ⟨hk.nd, Nat.le_refl _, fun u => ⟨.inr, fun h => h.elim (fun q => (nomatch q.1)) id⟩⟩
    | succ n ih =>
      intro hn
      obtain ⟨i1, i2, i3⟩ := ih (by omega)
      have hg : R[n]? = some R[n] := List.getElem?_eq_getElem (by omega)
      have ht : R.take (n + 1) = R.take n ++ [R[n]] := take_snoc hg
      rw [ht, List.foldl_append]
      generalize (R.take n).foldl (stepU z [r1, r2]) kn = us at i1 i2 i3
      show (stepU z [r1, r2] us R[n]).Nodup ∧ (stepU z [r1, r2] us R[n]).length ≤ kn.length + (n + 1) ∧ ∀ u, u ∈ stepU z [r1, r2] us R[n] ↔ _
      have hyu : ¬ Evn (ls z) (tL r1) (ls R[n]) := (hR _).mp (List.getElem_mem (by omega))
      have bad : ∀ u, u ∈ us → ¬ Evn (ls z) (tLs [r1, r2]) (ls u) := fun u hu => ((i3 u).mp hu).elim (fun q => q.2) fun q => hk.un q
      have ev : evenB z [r1, r2] R[n] us = true ↔ Evn (ls z) (tLs [r1, r2]) (ls R[n]) := by
        rw [evenB_iffS, evn_step]
        refine ⟨fun h c hc => ⟨?_, (h c hc).2⟩, fun h c hc => ⟨fun q => ?_, (h c hc).2⟩⟩
        · refine Classical.byContradiction fun q => (h c hc).1 ?_
          have q' : ¬ Evn (ls z) (tLs [r1, r2]) (ls (R[n] ++ sg c)) := by rw [ls_sg]; exact q
          refine (i3 _).mpr ?_
          by_cases hv : Evn (ls z) (tL r1) (ls (R[n] ++ sg c))
          · refine .inr ((hk.mem _).mpr ⟨ls (R[n] ++ sg c), [], (List.append_nil _).symm, fun _ h => (nomatch h), .inr (.inr ⟨ls R[n], c, hc, ls_sg _ _, hyu⟩), hv, fun w => q' ?_⟩)
            have := (evn2 (r2 := r2) hv (e := []) fun _ h => (nomatch h)).mpr w
            rw [List.append_nil] at this
            exact this
          · refine .inl ⟨?_, q'⟩
            have ha : R[n] ++ sg c ∈ R := (hR _).mpr hv
            obtain ⟨m, hml, hme⟩ := List.mem_iff_getElem.mp ha
            have lenc : (R[n] ++ sg c).length = R[n].length + 1 := by rw [len_app]; rfl
            by_cases h1 : m < n
            · exact List.mem_take_iff_getElem.mpr ⟨m, by omega, hme⟩
            · by_cases h2 : m = n
              · subst h2
                have := congrArg Str.length hme
                rw [lenc] at this
                omega
              · have := lineLe_len (List.pairwise_iff_getElem.mp hs n m (by omega) hml (by omega))
                rw [hme, lenc] at this
                omega
        · have := bad _ q
          rw [ls_sg] at this
          exact this (h c hc).1
      cases e : evenB z [r1, r2] R[n] us with
      | true =>
        have hv := ev.mp e
        have es : stepU z [r1, r2] us R[n] = us := by unfold stepU; rw [e]; rfl
        rw [es]
        refine ⟨i1, by omega, fun u => ?_⟩
        rw [i3 u, List.mem_append, List.mem_singleton]
        exact ⟨fun h => h.imp (fun h => ⟨.inl h.1, h.2⟩) id, fun h => h.imp (fun h => ⟨h.1.elim id fun q => absurd (by rw [q]; exact hv) h.2, h.2⟩) id⟩
      | false =>
        have hv : ¬ Evn (ls z) (tLs [r1, r2]) (ls R[n]) := fun q => by rw [ev.mpr q] at e; cases e
        have es : stepU z [r1, r2] us R[n] = addB us R[n] := by unfold stepU; rw [e]; rfl
        rw [es]
        refine ⟨addB_nodup i1, Nat.le_trans (addB_len _ _) (by omega), fun u => ?_⟩
        rw [mem_addB, i3 u, List.mem_append, List.mem_singleton]
        constructor
        · rintro ((h | h) | h)
          · exact .inl ⟨.inl h.1, h.2⟩
          · exact .inr h
          · exact .inl ⟨.inr h, by rw [h]; exact hv⟩
        · rintro (⟨h | h, h2⟩ | h)
          · exact .inl (.inl ⟨h, h2⟩)
          · exact .inr h
          · exact .inl (.inr h)
  obtain ⟨j1, j2, j3⟩ := main R.length (Nat.le_refl _)
  rw [List.take_length] at j1 j2 j3
  refine ⟨⟨j1, fun u => ?_⟩, j2⟩
  rw [j3 u]
  constructor
  · rintro (h | h)
    · exact h.2
    · exact hk.un h
  · intro h
    have ho := uns_over hov h
    rcases cell_of (z := ls z) (F := tL r1) _ (ls u) rfl ho with q | ⟨l, e, eq, ev, hc⟩
    · exact .inl ⟨(hR u).mpr q, h⟩
    · have he : ∀ c ∈ e, c ∈ ls z := fun c hc => ho c (by show c ∈ ls u; rw [eq]; exact List.mem_append_right _ hc)
      refine .inr ((hk.mem u).mpr ⟨l, e, eq, he, hc, ev, ?_⟩)
      rw [← evn2 ev he, ← eq]
      exact h
/-- the known lines alone are no more than all -/
theorem KnOk.le {z : Str} {r1 r2 : List Rule} {kn us : List Str} (h : KnOk z r1 r2 kn) (hu : UnS z [r1, r2] us) : kn.length ≤ us.length := nodup_sub h.nd fun x hx => (hu.mem x).mpr (h.un hx)
/-! ### how many cells -/
theorem keys2_eq {z : Str} (az : (ls z).Pairwise (· < ·)) {rss : List (List Rule)} (hov : OvS z rss) {us : List Str} (h : UnS z rss us) : (keys2 z us).length = us.length * z.length + 1 := by
  have hx : (us.flatMap (ext z)).Nodup := by
    have key : ∀ l : List Str, l.Nodup → (l.flatMap (ext z)).Nodup := fun l => by
      induction l with
      | nil => intro _; exact List.nodup_nil
      | cons a l ih =>
        intro hn
        obtain ⟨n1, n2⟩ := List.nodup_cons.mp hn
        rw [List.flatMap_cons]
        refine List.nodup_append.mpr ⟨nodup_of_lt (ext_sorted az a), ih n2, fun x hx y hy e => ?_⟩
        obtain ⟨c, _, q1⟩ := mem_ext.mp hx
        obtain ⟨b, hb, hy⟩ := List.mem_flatMap.mp hy
        obtain ⟨d, _, q2⟩ := mem_ext.mp hy
        have e2 := congrArg ls (q1.symm.trans (e.trans q2))
        rw [ls_sg1, ls_sg1] at e2
        obtain ⟨e3, _⟩ := List.append_inj' e2 rfl
        exact n1 (by rw [ls_inj e3]; exact hb)
    exact key us h.nd
  have hn : (Str.ofString "" :: us.flatMap (ext z)).Nodup := List.nodup_cons.mpr ⟨fun q => by
    obtain ⟨b, _, hy⟩ := List.mem_flatMap.mp q
    obtain ⟨c, _, q1⟩ := mem_ext.mp hy
    have e := congrArg ls q1
    rw [ls_sg1, show ls (Str.ofString "") = [] by decide +kernel] at e
    exact absurd e (by simp), hx⟩
  have hp : (keys2 z us).Perm (Str.ofString "" :: us.flatMap (ext z)) := (List.perm_ext_iff_of_nodup (nd_keys2 z us) hn).mpr fun l => by
    rw [mem_keys2, List.mem_cons, List.mem_flatMap]
    constructor
    · rintro (q | ⟨u, hu, c, hc, q⟩ | q)
      · exact .inl q
      · exact .inr ⟨u, hu, mem_ext.mpr ⟨c, hc, q⟩⟩
      · have hv := (h.mem l).mp q
        by_cases hne : ls l = []
        · exact .inl (ls_inj (by rw [hne]; decide +kernel))
        · right
          have ho := uns_over hov hv
          have el : l = st (ls l).dropLast ++ sg1 ((ls l).getLast hne) := ls_inj (by rw [ls_sg1]; exact (List.dropLast_concat_getLast hne).symm)
          have hc : (ls l).getLast hne ∈ ls z := ho _ (List.getLast_mem hne)
          generalize (ls l).getLast hne = c at el hc
          refine ⟨st (ls l).dropLast, (h.mem _).mpr fun w => hv ?_, mem_ext.mpr ⟨c, hc, el⟩⟩
          rw [el, ls_sg1]
          exact w.down fun d hd => by rw [List.mem_singleton.mp hd]; exact hc
    · rintro (q | ⟨u, hu, q⟩)
      · exact .inl q
      · obtain ⟨c, hc, q⟩ := mem_ext.mp q
        exact .inr (.inl ⟨u, hu, c, hc, q⟩)
  rw [hp.length_eq, List.length_cons]
  have e2 : (us.flatMap (ext z)).length = us.length * z.length := by
    generalize us = l
    induction l with
    | nil => exact (Nat.zero_mul _).symm
    | cons a l ih =>
      rw [List.flatMap_cons, List.length_append, ih, List.length_cons, Nat.succ_mul]
      have : (ext z a).length = z.length := by
        unfold ext
        rw [List.length_map, str_len]
      omega
  rw [e2]
theorem cellsL_len {z : Str} (az : (ls z).Pairwise (· < ·)) {rss : List (List Rule)} (hov : OvS z rss) {us : List Str} (h : UnS z rss us) : (cellsL z rss us).length = us.length * z.length + 1 := by
  unfold cellsL
  rw [List.length_map, ordL_len, keys2_eq az hov h]
/-! ### the relay of the cells turns alike -/
theorem cells_alikeS {z : Str} {rss : List (List Rule)} {us : List Str} {rs' : List Rule} (hu : UnS z rss us) (h1 : ∀ r ∈ rs', r ∈ cellsL z rss us) (h2 : ∀ c ∈ cellsL z rss us, c.old ≠ c.new → c ∈ rs') : AlS z rss [rs'] := by
  intro y oy
  have fit1 : ∀ r ∈ cellsL z rss us, fits r y = true → turnR r y = thr rss y := by
    intro r hr hf
    obtain ⟨l, hl, rfl⟩ := List.mem_map.mp hr
    by_cases hlu : l ∈ us
    · have e : decide (l ∉ us) = false := decide_eq_false (by simpa using hlu)
      rw [e] at hf ⊢
      have ey : y = l := of_decide_eq_true hf
      rw [ey]
      rfl
    · have e : decide (l ∉ us) = true := decide_eq_true hlu
      rw [e] at hf ⊢
      obtain ⟨s, hs⟩ := (fits_front (r := ⟨true, l, thr rss l⟩) rfl).mp hf
      have hs' : ls l ++ s = ls y := hs
      have ev : Evn (ls z) (tLs rss) (ls l) := Classical.byContradiction fun q => hlu ((hu.mem l).mpr q)
      apply ls_inj
      rw [front_turn, ← hs', List.drop_left, thr_list, thr_list, ← hs', ev s fun c hc => oy c (by show c ∈ ls y; rw [← hs']; exact List.mem_append_right _ hc)]
  show thr rss y = turn rs' y
  refine (turn_all (fun r hr => fit1 r (h1 r hr)) ?_).symm
  by_cases hex : ∃ r ∈ rs', fits r y = true
  · exact .inl hex
  · right
    have none_ : ∀ c ∈ cellsL z rss us, fits c y = true → c.old = c.new := fun c hc hf => Classical.byContradiction fun hne => hex ⟨c, h2 c hc hne, hf⟩
    rcases cell_of (z := ls z) (F := tLs rss) _ (ls y) rfl oy with q | ⟨u, s, e, ev, hc⟩
    · have hyu : y ∈ us := (hu.mem y).mpr q
      have hm : (⟨decide (y ∉ us), y, thr rss y⟩ : Rule) ∈ cellsL z rss us := List.mem_map.mpr ⟨y, mem_ordL.mpr (mem_keys2.mpr (.inr (.inr hyu))), rfl⟩
      have hf : fits ⟨decide (y ∉ us), y, thr rss y⟩ y = true := by
        have e : decide (y ∉ us) = false := decide_eq_false (by simpa using hyu)
        rw [e]
        exact decide_eq_true rfl
      exact (none_ _ hm hf).symm
    · have hmem : st u ∈ keys2 z us := by
        rw [mem_keys2]
        rcases hc with q | q | ⟨u', c, hcz, q, hu'⟩
        · exact .inl (ls_inj (by rw [show ls (st u) = u from rfl, q]; decide +kernel))
        · exact absurd ev q
        · exact .inr (.inl ⟨st u', (hu.mem _).mpr hu', c, hcz, ls_inj (by rw [ls_sg]; exact q)⟩)
      have hnu : st u ∉ us := fun q => (hu.mem _).mp q ev
      have hm : (⟨decide (st u ∉ us), st u, thr rss (st u)⟩ : Rule) ∈ cellsL z rss us := List.mem_map.mpr ⟨st u, mem_ordL.mpr hmem, rfl⟩
      have hd : decide (st u ∉ us) = true := decide_eq_true hnu
      have hf : fits ⟨decide (st u ∉ us), st u, thr rss (st u)⟩ y = true := by
        rw [hd]
        refine (fits_front (r := ⟨true, st u, thr rss (st u)⟩) rfl).mpr ?_
        show u <+: ls y
        rw [e]
        exact List.prefix_append _ _
      have e3 : st u = thr rss (st u) := none_ _ hm hf
      apply ls_inj
      rw [thr_list, e, ev s fun c hc => oy c (by show c ∈ ls y; rw [e]; exact List.mem_append_right _ hc)]
      have e4 := congrArg ls e3
      rw [thr_list] at e4
      rw [← e4]
theorem chg_mem {cs : List Rule} {c : Rule} : c ∈ chg cs ↔ c ∈ cs ∧ c.old ≠ c.new := by
  unfold chg
  rw [List.mem_filter]
  refine and_congr Iff.rfl ?_
  rw [Bool.not_eq_true', decide_eq_false_iff_not]
  exact not_congr ⟨V.str.inj, congrArg V.str⟩
theorem chg_alike {z : Str} {rss : List (List Rule)} {us : List Str} (hu : UnS z rss us) : AlS z rss [chg (cellsL z rss us)] :=
  cells_alikeS hu (fun r hr => (chg_mem.mp hr).1) fun c hc hne => chg_mem.mpr ⟨hc, hne⟩
/-- there are such lists -/
theorem uns_of_bfs {z : Str} {rss : List (List Rule)} (hov : OvS z rss) {N : List Str} (h : Bfs z rss N N.length) : UnS z rss (N.filter fun y => !evnB z rss y) := by
  refine ⟨(nodup_of_lt h.srt).filter _, fun u => ?_⟩
  rw [List.mem_filter]
  have e : (!evnB z rss u) = true ↔ ¬ Evn (ls z) (tLs rss) (ls u) := by
    unfold evnB
    rw [Bool.not_eq_true']
    constructor
    · intro q w
      rw [dec_t w] at q
      cases q
    · exact fun q => dec_f q
  rw [e]
  exact ⟨fun q => q.2, fun q => ⟨h.all _ u rfl (uns_over hov q) q, q⟩⟩
theorem law_cells {z : Str} {rss : List (List Rule)} (hov : OvS z rss) {N us : List Str} (h : Bfs z rss N N.length) (hu : UnS z rss us) : lawCells z rss N = cellsL z rss us :=
  (lawCells_eq h hu.nd hu.mem fun u h' => uns_over hov ((hu.mem u).mp h')).symm
end K23
namespace K23
open PySem PySem.Spec PyProof.Rows L2 FL
/-! ### uneven_ends -/
abbrev sEnds : Stmt := topS 45
def kidsU (z l : Str) (us : List Str) (e : Str) : List Str := (ext z e).filter fun x => decide (l ++ x ∈ us)
def startU (l : Str) (us : List Str) : List Str := if l ∈ us then [Str.ofString ""] else []
structure Ens (z l : Str) (us es : List Str) (k : Nat) : Prop where
  le : k ≤ es.length
  eq : es = startU l us ++ (es.take k).flatMap (kidsU z l us)
  srt : es.Pairwise lineLt
theorem mem_kidsU {z l e x : Str} {us : List Str} : x ∈ kidsU z l us e ↔ (∃ c ∈ ls z, x = e ++ sg1 c) ∧ l ++ x ∈ us := by
  unfold kidsU
  rw [List.mem_filter, mem_ext, decide_eq_true_eq]
theorem mem_startU {l x : Str} {us : List Str} : x ∈ startU l us ↔ x = Str.ofString "" ∧ l ∈ us := by
  unfold startU
  by_cases h : l ∈ us
  · rw [if_pos h, List.mem_singleton]
    exact ⟨fun q => ⟨q, h⟩, fun q => q.1⟩
  · rw [if_neg h]
    exact ⟨fun q => (nomatch q), fun q => absurd q.2 h⟩
theorem Ens.start (z l : Str) (us : List Str) : Ens z l us (startU l us) 0 := by
  refine ⟨Nat.zero_le _, by rw [List.take_zero, List.flatMap_nil, List.append_nil], ?_⟩
  unfold startU
  split
  · exact List.pairwise_singleton _ _
  · exact .nil
theorem Ens.mem {z l : Str} {us es : List Str} {k : Nat} (h : Ens z l us es k) {x : Str} : x ∈ es ↔ (x = Str.ofString "" ∧ l ∈ us) ∨ ∃ e ∈ es.take k, (∃ c ∈ ls z, x = e ++ sg1 c) ∧ l ++ x ∈ us := by
  conv => lhs; rw [h.eq]
  rw [List.mem_append, mem_startU, List.mem_flatMap]
  exact or_congr Iff.rfl ⟨fun ⟨u, h1, h2⟩ => ⟨u, h1, mem_kidsU.mp h2⟩, fun ⟨u, h1, h2⟩ => ⟨u, h1, mem_kidsU.mpr h2⟩⟩
theorem Ens.step {z l : Str} {us es : List Str} {k : Nat} {y : Str} (hz : (ls z).Pairwise (· < ·)) (h : Ens z l us es k) (hy : es[k]? = some y) : Ens z l us (es ++ kidsU z l us y) (k + 1) := by
  have hk : k < es.length := (List.getElem?_eq_some_iff.mp hy).1
  have hyk : es[k] = y := (List.getElem?_eq_some_iff.mp hy).2
  refine ⟨by rw [List.length_append]; omega, ?_, List.pairwise_append.mpr ⟨h.srt, (ext_sorted hz y).filter _, ?_⟩⟩
  · rw [List.take_append_of_le_length (by omega), take_snoc hy, List.flatMap_append]
    rw [List.flatMap_cons, List.flatMap_nil, List.append_nil, ← List.append_assoc, ← h.eq]
  · intro a ha b hb
    obtain ⟨⟨d, hd, rfl⟩, _⟩ := mem_kidsU.mp hb
    rcases h.mem.mp ha with ⟨rfl, _⟩ | ⟨u, hu, ⟨c, hc, rfl⟩, _⟩
    · refine .inl ?_
      rw [sg1_len]
      exact Nat.lt_of_lt_of_le (show (Str.ofString "").length < 1 by decide +kernel) (Nat.le_add_left _ _)
    · obtain ⟨i, hi, hie⟩ := List.mem_take_iff_getElem.mp hu
      refine kid_lt ?_
      rw [← hie, ← hyk]
      exact List.pairwise_iff_getElem.mp h.srt i k (by omega) hk (by omega)
theorem app_empty (l : Str) : l ++ Str.ofString "" = l := ls_inj (by rw [ls_app, show ls (Str.ofString "") = [] by decide +kernel, List.append_nil])
theorem app_sg (l e : Str) (c : Nat) : l ++ (e ++ sg1 c) = (l ++ e) ++ sg1 c := ls_inj (by rw [ls_app, ls_sg1, ls_sg1, ls_app, List.append_assoc])
theorem Ens.sub {z l : Str} {us es : List Str} {k : Nat} (h : Ens z l us es k) : ∀ n, ∀ x ∈ es, x.length = n → Over z x ∧ l ++ x ∈ us := by
  intro n
  induction n with
  | zero =>
    intro x hx e
    have e0 : ls x = [] := List.eq_nil_of_length_eq_zero (by rw [str_len] at e; exact e)
    have ex : x = Str.ofString "" := ls_inj (by rw [e0]; decide +kernel)
    refine ⟨fun c hc => (by rw [show x.cps.toList = [] from e0] at hc; cases hc), ?_⟩
    rcases h.mem.mp hx with q | ⟨u, _, ⟨c, _, q⟩, q2⟩
    · rw [ex, app_empty]
      exact q.2
    · exact q2
  | succ n ih =>
    intro x hx e
    rcases h.mem.mp hx with ⟨rfl, _⟩ | ⟨u, hu, ⟨c, hc, rfl⟩, q2⟩
    · rw [show (Str.ofString "").length = 0 by decide +kernel] at e
      cases e
    · rw [sg1_len] at e
      obtain ⟨h1, _⟩ := ih u (List.mem_of_mem_take hu) (by omega)
      exact ⟨over_app h1 (over_one hc), q2⟩
theorem Ens.few {z l : Str} {us es : List Str} {k : Nat} (h : Ens z l us es k) : es.length ≤ us.length := by
  have hn : (es.map fun e => l ++ e).Nodup := by
    refine List.pairwise_map.mpr ((nodup_of_lt h.srt).imp fun {a b} q e => q ?_)
    have e2 := congrArg ls e
    rw [ls_app, ls_app] at e2
    exact ls_inj (List.append_cancel_left e2)
  have := nodup_sub hn (m := us) fun x hx => by
    obtain ⟨e, he, rfl⟩ := List.mem_map.mp hx
    exact (h.sub _ e he rfl).2
  rw [List.length_map] at this
  exact this
/-- beginnings of what is uneven are so, too -/
def PreC (z : Str) (us : List Str) : Prop := ∀ w c, c ∈ ls z → w ++ sg1 c ∈ us → w ∈ us
theorem Ens.all {z l : Str} {us es : List Str} (pc : PreC z us) (h : Ens z l us es es.length) : ∀ (n : Nat) (x : Str), x.length = n → Over z x → l ++ x ∈ us → x ∈ es
  | 0, x, e, _, hm => by
    have e0 : ls x = [] := List.eq_nil_of_length_eq_zero (by rw [str_len] at e; exact e)
    have ex : x = Str.ofString "" := ls_inj (by rw [e0]; decide +kernel)
    rw [ex, app_empty] at hm
    exact h.mem.mpr (.inl ⟨ex, hm⟩)
  | n + 1, x, e, ho, hm => by
    have hne : ls x ≠ [] := fun q => by
      rw [str_len] at e
      rw [show x.cps.toList = [] from q] at e
      cases e
    have ex : x = st (ls x).dropLast ++ sg1 ((ls x).getLast hne) := ls_inj (by rw [ls_sg1]; exact (List.dropLast_concat_getLast hne).symm)
    have hc : (ls x).getLast hne ∈ ls z := ho _ (List.getLast_mem hne)
    have hou : Over z (st (ls x).dropLast) := fun d hd => ho d (List.dropLast_subset _ hd)
    generalize (ls x).getLast hne = c at ex hc
    generalize st (ls x).dropLast = u at ex hou
    subst ex
    have hu : u ∈ es := Ens.all pc h n u (by rw [sg1_len] at e; exact Nat.succ.inj e) hou (pc _ c hc (by rw [← app_sg]; exact hm))
    exact h.mem.mpr (.inr ⟨u, by rw [List.take_length]; exact hu, ⟨c, hc, rfl⟩, hm⟩)
def spEnds : Sp := fun vs H Q _ => ∃ (z l : Str) (U : Addr) (us : List Str), vs = [.str z, .str l, .ref U] ∧ TxtD H U us ∧ (ls z).Pairwise (· < ·) ∧ PreC z us ∧ z.length ≤ 4 ∧ l.length ≤ 1000 ∧ us.length ≤ 410000 ∧ (∀ u ∈ us, u.length ≤ 1000) ∧
  ∀ (H' : Hp) (L : Addr) (es : List Str), Same H H' → H L = none → H' L = some (.lst (es.map V.str)) → es.Nodup → (∀ e, e ∈ es ↔ Over z e ∧ l ++ e ∈ us) → es.length ≤ us.length → Q (.ref L) H'
section
variable {P : Program} {w : World} {K : PySem.W.Frag} {mg : Str → Option Value} {base : Heap}
abbrev nEnds : List Str := ["signs", "line", "uneven", "found", "at", "sign"]
theorem scEnds : FnScope nEnds ["signs", "line", "uneven"] (defScope sEnds) := ⟨rfl, rfl, rfl, by decide +kernel, rfl, by decide +kernel, by decide +kernel⟩
theorem ok_ends {f : Addr} {fd : FuncData} (F : Fun K "uneven_ends" "uneven_ends" sEnds f fd) (mN : mg "len" = none) : FnOk P w K mg base CX0 1 f fd ["signs", "line", "uneven"] spEnds := by
  refine F.ok scEnds (fun vs H Q E h => ?_) (fun cdv A outer s H vs Q E hr h => ?_)
  · obtain ⟨_, _, _, _, rfl, _⟩ := h
    rfl
  · obtain ⟨z, l, U, us, rfl, ⟨kvs, gU, hk⟩, hz, pc, lz, ll, few, lus, k⟩ := h
    have nd := scEnds.nd
    have hu := hu_of hr
    have sz : sizeLine = 16777216 := rfl
    refine ⟨_, pss_cons (ps_set (i := 3) nd rfl (.inl rfl) (pe_lst pa_nil))
      (C8.pss_cut (ps_if (pt_cmp (pc_din hu (pv 1) (pv 2))) (pss_one (ps_expr (pe_bm PySem.F.plainAttrs_list PySem.F.slot_list_append PySem.F.type_list_append mtAppend (pv 3) (pa_cons pe_str pa_nil)))) pss_nil)
      (pss_cons (ps_set (i := 4) nd rfl (.inl rfl) pe_int)
      (C8.pss_cut (ps_while PassesOwn.never (pt_cmpR op_lt (pv 4) (pe_callB callLen (by rfl) mN PySem.boot_len (pa_cons (pv 3) pa_nil)) (nomark _))
        (pss_cons (ps_for PassesOwn.never rfl (pi_str (pv 0)) (pg_name (i := 5) nd rfl (.inl rfl))
          (pss_one (ps_if (pt_cmp (pc_din hu (pe_op op_add_str (pe_op op_add_str (pv 1) (pe_ix ix_list (pv 3) (pv 4) (fun _ _ => rfl))) (pv 5)) (pv 2)))
            (pss_one (ps_expr (pe_bm PySem.F.plainAttrs_list PySem.F.slot_list_append PySem.F.type_list_append mtAppend (pv 3) (pa_cons (pe_op op_add_str (pe_ix ix_list (pv 3) (pv 4) (fun _ _ => rfl)) (pv 5)) pa_nil)))) pss_nil)))
        (pss_one (ps_set (i := 4) nd rfl (.inl rfl) (pe_op op_add (pv 4) pe_int)))))
      (pss_one (ps_ret (pv 3)))))), ?_⟩
    refine ⟨by decide, fun L hL => ?_⟩
    have nUL : U ≠ L := ne_of_none gU hL
    have s1 : Same H (upd H L (.lst [])) := (Same.refl H).upd hL
    have gL : upd H L (.lst []) L = some (.lst []) := upd_same
    have gU1 : upd H L (.lst []) U = some (.dK kvs) := by rw [upd_ne nUL]; exact gU
    generalize upd H L (.lst []) = H1 at s1 gL gU1 ⊢
    refine ⟨fun σ' H' => σ' = [some (.str z), some (.str l), some (.ref U), some (.ref L), none, none] ∧ Same H H' ∧ H' L = some (.lst ((startU l us).map V.str)), ?_, ?_⟩
    · refine ⟨_, rfl, _, rfl, U, _, rfl, DGet.k (k := Sum.inr l) gU1, _, rfl, ?_⟩
      rw [val_some hk]
      by_cases hl : l ∈ us
      · rw [decide_eq_true hl]
        refine iteT ?_
        refine ⟨_, rfl, .inl ⟨rfl, _, SqL.of gL⟩, L, _, _, rfl, rfl, gL, by decide, ?_⟩
        refine ⟨rfl, s1.upd hL, ?_⟩
        rw [upd_same]
        unfold startU
        rw [if_pos hl]
        rfl
      · rw [decide_eq_false hl]
        refine iteF ?_
        refine ⟨rfl, s1, ?_⟩
        unfold startU
        rw [if_neg hl]
        exact gL
    rintro σ' H2 ⟨rfl, s2, gL2⟩
    refine ⟨fun σ' H' => ∃ (es : List Str) (o5 : Option V), σ' = [some (.str z), some (.str l), some (.ref U), some (.ref L), some (.int ((es.length : Nat) : Int)), o5] ∧ Same H H' ∧ H' L = some (.lst (es.map V.str)) ∧ Ens z l us es es.length, ?_, ?_⟩
    · refine while_by (fun σ' H' => ∃ (es : List Str) (k : Nat) (o5 : Option V), σ' = [some (.str z), some (.str l), some (.ref U), some (.ref L), some (.int ((k : Nat) : Int)), o5] ∧ Same H H' ∧ H' L = some (.lst (es.map V.str)) ∧ Ens z l us es k) (mu us.length) ?_ ?_ ?_
      · exact ⟨_, 0, none, rfl, s2, gL2, Ens.start z l us⟩
      · rintro σ' Hi ⟨es, kk, o5, rfl, si, gi, en⟩
        have fe := en.few
        refine ⟨_, rfl, _, rfl, _, es.length, rfl, .inl ⟨_, SqL.of gi, (by rw [List.length_map])⟩, _, _, rfl, rfl, _, rfl, ?_⟩
        refine ite2 (fun hlt => ?_) (fun hlt => ?_)
        · have hk' : kk < es.length := by have := of_decide_eq_true hlt; omega
          obtain ⟨y, hy⟩ : ∃ y, es[kk]? = some y := ⟨_, List.getElem?_eq_getElem hk'⟩
          have hys := en.sub _ y (List.mem_of_getElem? hy) rfl
          have lly := lus _ hys.2
          rw [len_app] at lly
          have fz := (en.step hz hy).few
          have atk : ∀ ts : List Str, atI ((es ++ ts).map V.str) ((kk : Nat) : Int) = some (.str y) := fun ts => atI_nat (by rw [List.getElem?_map, List.getElem?_append_left hk', hy]; rfl)
          have gUi : Hi U = some (.dK kvs) := si _ _ gU
          refine ⟨_, rfl, _, rfl, for_it walk_str (fun j σ Hj => ∃ (o5 : Option V), σ = [some (.str z), some (.str l), some (.ref U), some (.ref L), some (.int ((kk : Nat) : Int)), o5] ∧ Same H Hj
            ∧ Hj L = some (.lst ((es ++ (((ls z).take j).map fun c => y ++ sg1 c).filter fun x => decide (l ++ x ∈ us)).map V.str))) ?_ ?_ ?_ ?_⟩
          · exact ⟨o5, rfl, si, by rw [List.take_zero]; show Hi L = some (.lst ((es ++ []).map V.str)); rw [List.append_nil]; exact gi⟩
          · intros; trivial
          · rintro j x σ Hj Hq hj ⟨o5', rfl, sj, gj⟩ ⟨rfl, c, hc, rfl⟩
            have hcl : (ls z)[j]? = some c := by rw [Array.getElem?_toList]; exact hc
            have gUj := sj _ _ gU
            have ll1 : l.length + y.length ≤ 1000 := lly
            have cnt : (es ++ (((ls z).take j).map fun c => y ++ sg1 c).filter fun x => decide (l ++ x ∈ us)).length ≤ us.length + 4 := by
              rw [List.length_append]
              have q1 := List.length_filter_le (fun x => decide (l ++ x ∈ us)) (((ls z).take j).map fun c => y ++ sg1 c)
              rw [List.length_map, List.length_take] at q1
              have q2 : (ls z).length ≤ 4 := by rw [← str_len]; exact lz
              omega
            have etk : (((ls z).take (j + 1)).map fun c => y ++ sg1 c).filter (fun x => decide (l ++ x ∈ us)) = ((((ls z).take j).map fun c => y ++ sg1 c).filter fun x => decide (l ++ x ∈ us)) ++ [y ++ sg1 c].filter fun x => decide (l ++ x ∈ us) := by
              rw [take_snoc hcl, List.map_append, List.filter_append]
              rfl
            rw [etk]
            have eas : (l ++ y) ++ sg1 c = l ++ (y ++ sg1 c) := (app_sg l y c).symm
            refine ⟨_, rfl, _, rfl, _, rfl, L, _, _, .str y, rfl, rfl, SqL.of gj, atk _, _, _, rfl, rfl, (by rw [sz]; omega), _, rfl, _, _, rfl, rfl, (by rw [len_app, len_one, sz]; omega), _, rfl, U, _, rfl, DGet.k (k := Sum.inr ((l ++ y) ++ sg1 c)) gUj, _, rfl, ?_⟩
            rw [val_some hk, eas]
            by_cases hm : l ++ (y ++ sg1 c) ∈ us
            · rw [decide_eq_true hm]
              refine iteT ?_
              refine ⟨_, rfl, .inl ⟨rfl, _, SqL.of gj⟩, _, rfl, _, rfl, L, _, _, .str y, rfl, rfl, SqL.of gj, atk _, _, rfl, _, _, rfl, rfl, (by rw [len_one, sz]; omega), L, _, _, rfl, rfl, gj, (by rw [List.length_map, sz]; omega), ?_⟩
              refine ⟨_, rfl, sj.upd hL, ?_⟩
              rw [upd_same, List.filter_cons, if_pos (decide_eq_true hm), List.filter_nil, ← List.append_assoc, List.map_append (l₂ := [y ++ sg1 c])]
              rfl
            · rw [decide_eq_false hm]
              refine iteF ?_
              refine ⟨_, rfl, sj, ?_⟩
              rw [List.filter_cons, if_neg (by rw [decide_eq_false hm]; decide), List.filter_nil, List.append_nil]
              exact gj
          · rintro σ Hj ⟨o5', rfl, sj, gj⟩
            have eK : (((ls z).take z.cps.size).map fun c => y ++ sg1 c).filter (fun x => decide (l ++ x ∈ us)) = kidsU z l us y := by
              rw [List.take_of_length_le (by rw [Array.length_toList]; exact Nat.le_refl _)]
              rfl
            rw [eK] at gj
            refine ⟨_, rfl, _, _, rfl, rfl, ?_⟩
            refine ⟨⟨es ++ kidsU z l us y, kk + 1, o5', rfl, sj, gj, en.step hz hy⟩, ?_⟩
            show us.length - (((kk : Nat) : Int) + 1).toNat < us.length - (((kk : Nat) : Int)).toNat
            omega
        · have hk' : kk = es.length := by
            have h1 : ¬ kk < es.length := fun q => hlt (decide_eq_true (by omega))
            have := en.le
            omega
          subst hk'
          exact ⟨es, o5, rfl, si, gi, en⟩
      · rintro σ' Hi Q1 Q2 hq ⟨v, e1, u, e2, x, n, e3, l, i, j, e4, e5, b, e6, q⟩
        exact ⟨v, e1, u, e2, x, n, e3, l, i, j, e4, e5, b, e6, hq _ _ q⟩
    rintro σ' H3 ⟨es, o5, rfl, s3, g3, en⟩
    refine ⟨_, rfl, ?_⟩
    refine k H3 L es s3 hL g3 (nodup_of_lt en.srt) (fun e => ⟨fun he => en.sub _ e he rfl, fun ⟨h1, h2⟩ => en.all pc _ e rfl h1 h2⟩) en.few
end
end K23
namespace FL
open PySem PySem.Spec PyProof.Rows L2
/-! ### min(xs, key=f), min(xs, key=f, default=d), f a def of one's own whose answers read as data -/
mutual
theorem Dp.same {K : PySem.W.Frag} {H H' : Hp} (s : ∀ c u, H c = some u → H' c = some u) : ∀ {v : V} {d : PyData}, Dp K H v d → Dp K H' v d
  | _, _, .non => .non
  | _, _, .bl b => .bl b
  | _, _, .int i => .int i
  | _, _, .str x => .str x
  | _, _, .lst h t => .lst (Same.sqL s h) (DpAll.same s t)
  | _, _, .tup h t => .tup (by
      rcases h with (h | ⟨o, h⟩) | h
      · exact .inl (.inl (s _ _ h))
      · exact .inl (.inr ⟨o, s _ _ h⟩)
      · exact .inr h) (DpAll.same s t)
theorem DpAll.same {K : PySem.W.Frag} {H H' : Hp} (s : ∀ c u, H c = some u → H' c = some u) : ∀ {vs : List V} {ds : List PyData}, DpAll K H vs ds → DpAll K H' vs ds
  | _, _, .nil => .nil
  | _, _, .cons h t => .cons (Dp.same s h) (DpAll.same s t)
end
section
variable {X : Cx} {pins : List (Addr × Obj)} {σ : L2.St} {H : Hp} {s : Shared}
theorem swap_pin {p q : Addr × Obj} (I : Inv X (p :: q :: pins) σ H s) : Inv X (q :: p :: pins) σ H s :=
  I.pins_of fun r hr => I.pin r (List.mem_append_right _ (by
    rcases List.mem_cons.mp hr with rfl | hr
    · exact List.mem_cons_of_mem _ List.mem_cons_self
    · rcases List.mem_cons.mp hr with rfl | hr
      · exact List.mem_cons_self
      · exact List.mem_cons_of_mem _ (List.mem_cons_of_mem _ hr)))
theorem re_pin2 {b : Addr} {o o' : Obj} {h' : Heap} {t' : Nat} (I : Inv X ((b, o) :: pins) σ H s) (w : Own X pins b) (hs : ∀ c u, c ≠ b → s.heap.get? c = some u → h'.get? c = some u) (e : h'.get? b = some o') (nd : ∀ v, o'.data ≠ .cell v) :
    Inv X ((b, o') :: pins) σ H { s with heap := h', toks := t' } := by
  have n : H b = none := (I.pin (b, o) (List.mem_append_right _ List.mem_cons_self)).2.1
  have I1 : Inv X pins σ H { s with heap := h', toks := t' } := (drop_pin I).turned hs n w.loc w.new w.cel w.pin
  exact put_pin I1 w e n nd
/-- what a call f(x) must do -/
def MinTurn (X : Cx) (A' : Around) (f : Value) (H : Hp) (σ : L2.St) (zs : List V) (kd : Nat → PyData) : Prop :=
  ∀ (pins : List (Addr × Obj)) (s : Shared) (Hi : Hp) (u : Value) (i : Nat) (z : V), zs[i]? = some z → Inv X pins σ Hi s → Same H Hi → RelV z u →
    wpAny (model X.prog X.w) A' (call f [u]) (EP X pins σ fun v H' => Same Hi H' ∧ Dp X.K H' v (kd i)) (fun _ _ => False) s
structure KeysOk (kd : Nat → PyData) : Prop where
  al : ∀ i j, PySem.W.alike (kd i) (kd j) = true
  nn : ∀ i, kd i ≠ .none
  dp : ∀ i, (kd i).depth ≤ 8
def leK (kd : Nat → PyData) (i j : Nat) : Bool := PySem.W.dataLe false kd i j
theorem leK_total (kd : Nat → PyData) : PySem.W.TotalLe (leK kd) := PySem.W.sortLe_total (PyProof.Rows.listOrd PyProof.Rows.itemOrd) false (fun i => PySem.W.keyToks (kd i))
theorem leK_lt (kd : Nat → PyData) (i j : Nat) : leK kd i j = !(PySem.W.dataLt (kd j) (kd i)) := rfl
theorem iter_nd {o : Obj} {l : Addr} {i : Nat} {t : Tok} (h : o.data = .fields #[.ref l, .int i t]) : ∀ v, o.data ≠ .cell v := fun v e => by rw [h] at e; cases e
variable {zs : List V} {kd : Nat → PyData} {It S l q : Addr} {kw : List (Str × Value)} {R : Result → Shared → Prop}
theorem min_loopI (hh : X.A.handled = none) (hu : X.A.units + 64 < cLine) (ko : KeysOk kd) (wS : Own X pins S) (wI : Own X pins It) (hSI : S ≠ It) (hl : SqL X.K H l zs) (nlI : l ≠ It) (turn : MinTurn X X.A.in1 (.ref q) H σ zs kd)
    (hR : ∀ (i : Nat) (z : V) (v : Value) (s' : Shared) (H' : Hp), zs[i]? = some z → RelV z v → (∀ j, j < zs.length → leK kd i j = true) → Inv X pins σ H' s' → Same H H' → R (.ok (.ret v)) s') :
    ∀ (k j : Nat) (s : Shared) (Hi : Hp) (vb kb : Value) (zb kv : V) (i c : Nat) (oI : Obj), zs.length - (j + 1) = k → j + 1 ≤ zs.length → Inv X ((S, seqObj "list" #[vb, kb] c) :: (It, oI) :: pins) σ Hi s → Same H Hi →
      s.heap.IsListIter It l (j + 1) → i ≤ j → zs[i]? = some zb → RelV zb vb → RelV kv kb → Dp X.K Hi kv (kd i) → (∀ j', j' ≤ j → leK kd i j' = true) →
      codeAny (model X.prog X.w) X.A (.builtin "min.loop" ⟨[.ref It, .ref q, .ref S], kw⟩) R s := by
  have hname : (toString "min" ++ toString ".loop" : String) = "min.loop" := by decide
  have wSI : ∀ {o : Obj}, Own X ((It, o) :: pins) S := wS.cons hSI.symm
  have wIS : ∀ {o : Obj}, Own X ((S, o) :: pins) It := wI.cons hSI
  intro k
  induction k with
  | zero =>
    intro j s Hi vb kb zb kv i c oI hk hj I sm hit hij hzb rz rk hd hbest
    have hin : j + 1 = zs.length := by omega
    obtain ⟨us, r, hL, hz⟩ := I.list (sm.sqL hl)
    have hul : us.length = zs.length := r.length.symm
    have pS := I.pin (S, seqObj "list" #[vb, kb] c) (List.mem_append_right _ List.mem_cons_self)
    refine codeAny_builtin PySem.F.entry_min_loop ?_
    rw [Around.under_plainId PySem.F.plain_min_loop _]
    show wpAny _ X.A.in1 (seqItems? (.ref S) >>= _) _ _ s
    refine wpAny_bind (wpAny_seqItems pS.1 rfl ?_)
    show wpAny _ X.A.in1 (tryCatch (pyNext (.ref It)) _ >>= _) _ _ s
    refine wpAny_bind (wpAny_tryCatch (wpAny_pyNext_list_end (A := X.A.in1) hh hit hL.isList (by rw [hin, ← hul]; simp) fun h' he' => ?_))
    have I1 : Inv X ((S, seqObj "list" #[vb, kb] c) :: pins) σ Hi { s with heap := h' } :=
      (drop_pin (swap_pin I)).turned (t' := s.toks) (fun b o hb e => he' b o hb e) (I.pin (It, oI) (List.mem_append_right _ (List.mem_cons_of_mem _ List.mem_cons_self))).2.1 wI.loc wI.new wI.cel (wIS (o := seqObj "list" #[vb, kb] c)).pin
    have pS1 := I1.pin (S, seqObj "list" #[vb, kb] c) (List.mem_append_right _ List.mem_cons_self)
    show wpAny _ X.A.in1 (updateSeq S (fun _ => #[]) >>= _) _ _ _
    refine wpAny_bind ?_
    refine wpAny_updateSeq pS1.1 rfl (wpAny_bind (wpAny_letGo (wpAny_pure ?_)))
    refine hR i zb vb _ Hi hzb rz (fun j' hj' => hbest j' (by omega)) ?_ sm
    exact (drop_pin I1).turned (t' := s.toks) (fun b o hb e => (Heap.get?_update_other _ _ (Ne.symm hb)).trans e) pS1.2.1 wS.loc wS.new wS.cel wS.pin
  | succ k ih =>
    intro j s Hi vb kb zb kv i c oI hk hj I sm hit hij hzb rz rk hd hbest
    have hlt : j + 1 < zs.length := by omega
    obtain ⟨us, r, hL, hz⟩ := I.list (sm.sqL hl)
    have hul : us.length = zs.length := r.length.symm
    have pS := I.pin (S, seqObj "list" #[vb, kb] c) (List.mem_append_right _ List.mem_cons_self)
    obtain ⟨zx, hzx⟩ : ∃ zx, zs[j + 1]? = some zx := ⟨_, List.getElem?_eq_getElem hlt⟩
    obtain ⟨x, hx, rx⟩ := r.get hzx
    refine codeAny_builtin PySem.F.entry_min_loop ?_
    rw [Around.under_plainId PySem.F.plain_min_loop _]
    show wpAny _ X.A.in1 (seqItems? (.ref S) >>= _) _ _ s
    refine wpAny_bind (wpAny_seqItems pS.1 rfl ?_)
    show wpAny _ X.A.in1 (tryCatch (pyNext (.ref It)) _ >>= _) _ _ s
    refine wpAny_bind (wpAny_tryCatch (wpAny_pyNext_list_item (A := X.A.in1) hit hL.isList (x := x) (by simpa using hx) fun h' hit' he' => ?_))
    obtain ⟨oI', hoI', hoc, hod⟩ := id hit'
    have I1 : Inv X ((S, seqObj "list" #[vb, kb] c) :: (It, oI') :: pins) σ Hi { s with heap := h', toks := s.toks } := swap_pin (re_pin2 (t' := s.toks) (swap_pin I) wIS (fun b o hb e => (he'.2 b hb).trans e) hoI' (iter_nd hod))
    show wpAny _ X.A.in1 (tryCatch (holding [x] (call (.ref q) [x])) _ >>= _) _ _ _
    refine wpAny_bind (wpAny_tryCatch (wpAny_holding (wpAny_mono (turn _ _ Hi x (j + 1) zx hzx I1 sm rx) (fun kx s'' he => ?_) fun _ _ hF => hF.elim)))
    obtain ⟨kxv, H2, I2, rkx, s2, hdx⟩ := he
    have sm2 := sm.trans s2
    have pS2 := I2.pin (S, seqObj "list" #[vb, kb] c) (List.mem_append_right _ List.mem_cons_self)
    have pI2 := I2.pin (It, oI') (List.mem_append_right _ (List.mem_cons_of_mem _ List.mem_cons_self))
    have hit2 : s''.heap.IsListIter It l (j + 1 + 1) := ⟨oI', pI2.1, hoc, hod⟩
    obtain ⟨as1, ra1⟩ := Dp.reads I2 _ _ _ hdx rkx
    obtain ⟨as2, ra2⟩ := Dp.reads I2 _ _ _ (Dp.same s2 hd) rk
    show wpAny _ X.A.in1 (tryCatch (holding [x, kx] (richCompare .Lt kx kb >>= _)) _ >>= _) _ _ _
    refine wpAny_bind (wpAny_tryCatch (wpAny_holding (wpAny_bind (PySem.W.lt_data ra1 ra2 (ko.al _ _) (ko.nn _) (by
      have h1 := ko.dp (j + 1)
      show X.A.units + 1 + min _ _ < cLine
      omega) ?_))))
    refine wpAny_bind (wpAny_holding (wpAny_truthy_bool ?_))
    refine wpAny_bind (wpAny_letGo (wpAny_pure ?_))
    cases hb : PySem.W.dataLt (kd (j + 1)) (kd i) with
    | true =>
      simp only [if_true]
      refine wpAny_bind ?_
      obtain ⟨c2, hc2⟩ : ∃ c2, (s''.heap.update S (Obj.mapSeq fun _ => #[x, kx])).get? S = some (seqObj "list" #[x, kx] c2) := ⟨_, get?_update_seq pS2.1 fun _ => #[x, kx]⟩
      refine wpAny_updateSeq pS2.1 rfl (wpAny_bind (wpAny_letGo ?_))
      rw [hname]
      have I3 : Inv X ((S, seqObj "list" #[x, kx] c2) :: (It, oI') :: pins) σ H2 { s'' with heap := s''.heap.update S (Obj.mapSeq fun _ => #[x, kx]), toks := s''.toks } :=
        re_pin2 I2 wSI (fun b o hb e => (Heap.get?_update_other _ _ (Ne.symm hb)).trans e) hc2 seq_nd
      refine wpAny_pure ⟨plainId_quiet PySem.F.plain_min_loop _, ih (j + 1) _ H2 x kx zx kxv (j + 1) c2 oI' (by omega) hlt I3 sm2 ⟨oI', (Heap.get?_update_other _ _ hSI).trans pI2.1, hoc, hod⟩ (Nat.le_refl _) hzx rx rkx hdx fun j' hj' => ?_⟩
      have h1 : leK kd (j + 1) i = true := by
        rcases (leK_total kd).total (j + 1) i with h | h
        · exact h
        · rw [leK_lt, hb] at h
          cases h
      by_cases e : j' = j + 1
      · subst e
        rcases (leK_total kd).total (j + 1) (j + 1) with h | h <;> exact h
      · exact (leK_total kd).trans _ _ _ h1 (hbest j' (by omega))
    | false =>
      simp only [Bool.false_eq_true, if_false]
      refine wpAny_bind (wpAny_letGo ?_)
      rw [hname]
      refine wpAny_pure ⟨plainId_quiet PySem.F.plain_min_loop _, ih (j + 1) _ H2 vb kb zb kv i c oI' (by omega) hlt I2 sm2 hit2 (by omega) hzb rz rk (Dp.same s2 hd) fun j' hj' => ?_⟩
      by_cases e : j' = j + 1
      · subst e
        rw [leK_lt, hb]
        rfl
      · exact hbest j' (by omega)
theorem min_firstI (hh : X.A.handled = none) (hu : X.A.units + 64 < cLine) (ko : KeysOk kd) (wS : Own X pins S) (wI : Own X pins It) (hSI : S ≠ It) (hl : SqL X.K H l zs) (nlI : l ≠ It) (turn : MinTurn X X.A.in1 (.ref q) H σ zs kd) (hn : 0 < zs.length)
    (hR : ∀ (i : Nat) (z : V) (v : Value) (s' : Shared) (H' : Hp), zs[i]? = some z → RelV z v → (∀ j, j < zs.length → leK kd i j = true) → Inv X pins σ H' s' → Same H H' → R (.ok (.ret v)) s')
    {c : Nat} {oI : Obj} (I : Inv X ((S, seqObj "list" #[] c) :: (It, oI) :: pins) σ H s) (hit : s.heap.IsListIter It l 0) :
      codeAny (model X.prog X.w) X.A (.builtin "min.loop" ⟨[.ref It, .ref q, .ref S], kw⟩) R s := by
  have hname : (toString "min" ++ toString ".loop" : String) = "min.loop" := by decide
  have wSI : ∀ {o : Obj}, Own X ((It, o) :: pins) S := wS.cons hSI.symm
  have wIS : ∀ {o : Obj}, Own X ((S, o) :: pins) It := wI.cons hSI
  obtain ⟨us, r, hL, hz⟩ := I.list hl
  have pS := I.pin (S, seqObj "list" #[] c) (List.mem_append_right _ List.mem_cons_self)
  obtain ⟨zx, hzx⟩ : ∃ zx, zs[0]? = some zx := ⟨_, List.getElem?_eq_getElem hn⟩
  obtain ⟨x, hx, rx⟩ := r.get hzx
  refine codeAny_builtin PySem.F.entry_min_loop ?_
  rw [Around.under_plainId PySem.F.plain_min_loop _]
  show wpAny _ X.A.in1 (seqItems? (.ref S) >>= _) _ _ s
  refine wpAny_bind (wpAny_seqItems pS.1 rfl ?_)
  show wpAny _ X.A.in1 (tryCatch (pyNext (.ref It)) _ >>= _) _ _ s
  refine wpAny_bind (wpAny_tryCatch (wpAny_pyNext_list_item (A := X.A.in1) hit hL.isList (x := x) (by simpa using hx) fun h' hit' he' => ?_))
  obtain ⟨oI', hoI', hoc, hod⟩ := id hit'
  have I1 : Inv X ((S, seqObj "list" #[] c) :: (It, oI') :: pins) σ H { s with heap := h', toks := s.toks } := swap_pin (re_pin2 (t' := s.toks) (swap_pin I) wIS (fun b o hb e => (he'.2 b hb).trans e) hoI' (iter_nd hod))
  show wpAny _ X.A.in1 (tryCatch (holding [x] (call (.ref q) [x])) _ >>= _) _ _ _
  refine wpAny_bind (wpAny_tryCatch (wpAny_holding (wpAny_mono (turn _ _ H x 0 zx hzx I1 (Same.refl H) rx) (fun kx s'' he => ?_) fun _ _ hF => hF.elim)))
  obtain ⟨kxv, H2, I2, rkx, s2, hdx⟩ := he
  have pS2 := I2.pin (S, seqObj "list" #[] c) (List.mem_append_right _ List.mem_cons_self)
  have pI2 := I2.pin (It, oI') (List.mem_append_right _ (List.mem_cons_of_mem _ List.mem_cons_self))
  obtain ⟨c2, hc2⟩ : ∃ c2, (s''.heap.update S (Obj.mapSeq fun _ => #[x, kx])).get? S = some (seqObj "list" #[x, kx] c2) := ⟨_, get?_update_seq pS2.1 fun _ => #[x, kx]⟩
  show wpAny _ X.A.in1 (updateSeq S (fun _ => #[x, kx]) >>= _) _ _ _
  refine wpAny_bind ?_
  refine wpAny_updateSeq pS2.1 rfl ?_
  rw [hname]
  have I3 : Inv X ((S, seqObj "list" #[x, kx] c2) :: (It, oI') :: pins) σ H2 { s'' with heap := s''.heap.update S (Obj.mapSeq fun _ => #[x, kx]), toks := s''.toks } :=
    re_pin2 I2 wSI (fun b o hb e => (Heap.get?_update_other _ _ (Ne.symm hb)).trans e) hc2 seq_nd
  refine wpAny_pure ⟨plainId_quiet PySem.F.plain_min_loop _, min_loopI hh hu ko wS wI hSI hl nlI turn hR _ 0 _ H2 x kx zx kxv 0 c2 oI' rfl hn I3 s2 ⟨oI', (Heap.get?_update_other _ _ hSI).trans pI2.1, hoc, hod⟩ (Nat.le_refl _) hzx rx rkx hdx fun j' hj' => ?_⟩
  obtain rfl : j' = 0 := by omega
  rcases (leK_total kd).total 0 0 with h | h <;> exact h
end
def rMinF (K : PySem.W.Frag) (f : Addr) (sp : Sp) : List V → List V → Hp → VK → Prop := fun vs ws H Q => ∃ (l : Addr) (zs : List V) (kd : Nat → PyData), vs = [.ref l] ∧ ws = [.ref f] ∧ SqL K H l zs ∧ 0 < zs.length ∧ KeysOk kd
  ∧ (∀ (Hi : Hp) (i : Nat) (z : V), zs[i]? = some z → Same H Hi → sp [z] Hi (fun v H' => Same Hi H' ∧ Dp K H' v (kd i)) E0) ∧ ∀ (H' : Hp) (i : Nat) (z : V), Same H H' → zs[i]? = some z → (∀ j, j < zs.length → leK kd i j = true) → Q z H'
def rMinFD (K : PySem.W.Frag) (f : Addr) (sp : Sp) : List V → List V → Hp → VK → Prop := fun vs ws H Q => ∃ (l : Addr) (zs : List V) (kd : Nat → PyData) (d : V), vs = [.ref l] ∧ ws = [.ref f, d] ∧ SqL K H l zs ∧ KeysOk kd
  ∧ (∀ (Hi : Hp) (i : Nat) (z : V), zs[i]? = some z → Same H Hi → sp [z] Hi (fun v H' => Same Hi H' ∧ Dp K H' v (kd i)) E0) ∧ (zs = [] → ∀ H' : Hp, Same H H' → Q d H') ∧ ∀ (H' : Hp) (i : Nat) (z : V), Same H H' → zs[i]? = some z → (∀ j, j < zs.length → leK kd i j = true) → Q z H'
section
variable {X : Cx} {pins : List (Addr × Obj)} {σ : L2.St} {H : Hp} {s : Shared}
theorem min_turn {f : Addr} {fd : FuncData} {k : Nat} {ps : List Str} {sp : Sp} {zs : List V} {kd : Nat → PyData} (F : FnOk X.prog X.w X.K X.mg X.base CX0 k f fd ps sp) (hb : Binds X.K fd ps []) (hp : ps.length = 1) (hr : Room (k + 1) X.A)
    (h : ∀ (Hi : Hp) (i : Nat) (z : V), zs[i]? = some z → Same H Hi → sp [z] Hi (fun v H' => Same Hi H' ∧ Dp X.K H' v (kd i)) E0) : MinTurn X X.A.in1 (.ref f) H σ zs kd := by
  intro pins2 s2 Hi u i z hz I2 sm ru
  have rv : Vals [z] ([u] ++ []) := .cons ru .nil
  refine wpAny_call (codeAny_mono (F.run X.A.in1 X.stack s2 Hi ⟨[u], []⟩ ([u] ++ []) [z] _ E0 hr.in1 I2.env0.in1 (hb s2 [u] I2.kIn (by rw [hp]; rfl)) rv (h Hi i z hz sm)) fun r s' hq => ?_)
  cases r with
  | error e => exact hq
  | ok fl =>
    cases fl with
    | ret u => exact I2.after hq
    | next => exact False.elim hq
    | brk => exact False.elim hq
    | cont => exact False.elim hq
theorem iter_pins {l : Addr} (I : Inv X pins σ H s) :
    Own X pins s.heap.objs.size ∧ Own X pins (s.heap.objs.size + 1) ∧ ∃ oI, Inv X ((s.heap.objs.size + 1, seqObj "list" #[] 0) :: (s.heap.objs.size, oI) :: pins) σ H
      { s with heap := (s.heap.push { cls := .type "list_iterator", data := .fields #[.ref l, .int 0 0] }).push { cls := .type "list", data := .seq #[] 0 } }
      ∧ ((s.heap.push { cls := .type "list_iterator", data := .fields #[.ref l, .int 0 0] }).push { cls := .type "list", data := .seq #[] 0 }).IsListIter s.heap.objs.size l 0 := by
  have wI : Own X pins s.heap.objs.size := Own.of I (Nat.le_refl _)
  have wS : Own X pins (s.heap.objs.size + 1) := Own.of I (Nat.le_succ _)
  have hnI : H s.heap.objs.size = none := I.hok.fresh (Nat.le_refl _)
  have hnS : H (s.heap.objs.size + 1) = none := I.hok.fresh (Nat.le_succ _)
  have kp : ∀ b o, s.heap.get? b = some o → ((s.heap.push { cls := .type "list_iterator", data := .fields #[.ref l, .int 0 0] }).push { cls := .type "list", data := .seq #[] 0 }).get? b = some o := fun b o e => Heap.get?_push_of_some _ (Heap.get?_push_of_some _ e)
  have I1 := I.kept (t' := s.toks) kp
  have gI : ((s.heap.push { cls := .type "list_iterator", data := .fields #[.ref l, .int 0 0] }).push { cls := .type "list", data := .seq #[] 0 }).get? s.heap.objs.size = some { cls := .type "list_iterator", data := .fields #[.ref l, .int 0 0] } :=
    Heap.get?_push_of_some _ (Heap.get?_push_size _ rfl)
  have gS : ((s.heap.push { cls := .type "list_iterator", data := .fields #[.ref l, .int 0 0] }).push { cls := .type "list", data := .seq #[] 0 }).get? (s.heap.objs.size + 1) = some (seqObj "list" #[] 0) := by
    have q := Heap.get?_push_size (h := s.heap.push { cls := .type "list_iterator", data := .fields #[.ref l, .int 0 0] }) (o := { cls := .type "list", data := .seq #[] 0 }) rfl
    rw [size_push'] at q
    exact q
  have I2 := put_pin I1 wI gI hnI (fun v e => by cases e)
  exact ⟨wI, wS, _, put_pin I2 (wS.cons (Nat.ne_of_lt (Nat.lt_succ_self _))) gS hnS seq_nd, ⟨_, gI, rfl, rfl⟩⟩
theorem call_minF {f : Addr} {fd : FuncData} {k : Nat} {ps : List Str} {sp : Sp} (hc : X.calm = true) (F : FnOk X.prog X.w X.K X.mg X.base CX0 k f fd ps sp) (hb : Binds X.K fd ps []) (hp : ps.length = 1) (hr : Room (k + 1) X.A) :
    CallRK X (.builtin "min") [Str.ofString "key"] (rMinF X.K f sp) := by
  intro pins s σ H vs ws us us2 Q I r1 r2 h
  obtain ⟨l, zs, kd, rfl, rfl, hl, hn, ko, hf, q⟩ := h
  obtain rfl := Vals.ref1 r1
  obtain rfl := Vals.ref1 r2
  obtain ⟨us, r, hL, hz⟩ := I.list hl
  obtain ⟨ol, hol, _⟩ := id hL.isList
  have hll : l < s.heap.objs.size := Heap.lt_size hol
  have hu : X.A.units + 64 < cLine := by
    have := hr.un
    omega
  have hname : (toString "min" ++ toString ".loop" : String) = "min.loop" := by decide
  refine PyProof.Rows.kmk_tree PySem.F.kind_min PySem.F.plain_min PySem.F.entry_min (PyProof.Rows.kmk_min_key _ _) ?_
  show wpAny _ X.A.in1 (Builtin.Builtins.bindParams "min" ["key", "default"] 0 ⟨[], [(Str.ofString "key", .ref f)]⟩ >>= _) _ _ s
  refine wpAny_bind (wpAny_of_eq (show Builtin.Builtins.bindParams "min" ["key", "default"] 0 ⟨[], [(Str.ofString "key", .ref f)]⟩ = pure [some (.ref f), none] from rfl) ?_)
  refine wpAny_bind (wpAny_pure ?_)
  refine wpAny_bind (wpAny_pyIter_list hL.isList ?_)
  refine wpAny_bind (wpAny_newObj_type ?_)
  rw [hname]
  obtain ⟨wI, wS, oI, I2, hit⟩ := iter_pins (l := l) I
  have e2 : (s.heap.push { cls := .type "list_iterator", data := .fields #[.ref l, .int 0 0] }).objs.size = s.heap.objs.size + 1 := size_push' ..
  refine wpAny_pure ⟨plainId_quiet PySem.F.plain_min_loop _, ?_⟩
  rw [e2]
  exact min_firstI (I.ok.hd hc) hu ko wS wI (Nat.succ_ne_self _) hl (Nat.ne_of_lt hll) (min_turn F hb hp hr hf) hn (fun i z v s' H' hzi rz hbest I' sm => ⟨z, H', I', rz, q H' i z sm hzi hbest⟩) I2 hit
theorem call_minFD {f : Addr} {fd : FuncData} {k : Nat} {ps : List Str} {sp : Sp} (hc : X.calm = true) (F : FnOk X.prog X.w X.K X.mg X.base CX0 k f fd ps sp) (hb : Binds X.K fd ps []) (hp : ps.length = 1) (hr : Room (k + 1) X.A) :
    CallRK X (.builtin "min") [Str.ofString "key", Str.ofString "default"] (rMinFD X.K f sp) := by
  intro pins s σ H vs ws us us2 Q I r1 r2 h
  obtain ⟨l, zs, kd, d, rfl, rfl, hl, ko, hf, q0, q⟩ := h
  obtain rfl := Vals.ref1 r1
  obtain ⟨u1, u2, rfl, ru1, ru2⟩ := vals2 r2
  obtain rfl : u1 = Value.ref f := ru1
  obtain ⟨us, r, hL, hz⟩ := I.list hl
  obtain ⟨ol, hol, _⟩ := id hL.isList
  have hll : l < s.heap.objs.size := Heap.lt_size hol
  have hu : X.A.units + 64 < cLine := by
    have := hr.un
    omega
  have hname : (toString "min" ++ toString ".loop" : String) = "min.loop" := by decide
  refine PyProof.Rows.kmk_tree PySem.F.kind_min PySem.F.plain_min PySem.F.entry_min (args_min_key_default _ _ _) ?_
  show wpAny _ X.A.in1 (Builtin.Builtins.bindParams "min" ["key", "default"] 0 ⟨[], [(Str.ofString "key", .ref f), (Str.ofString "default", u2)]⟩ >>= _) _ _ s
  refine wpAny_bind (wpAny_of_eq (show Builtin.Builtins.bindParams "min" ["key", "default"] 0 ⟨[], [(Str.ofString "key", .ref f), (Str.ofString "default", u2)]⟩ = pure [some (.ref f), some u2] from rfl) ?_)
  refine wpAny_bind (wpAny_pure ?_)
  refine wpAny_bind (wpAny_pyIter_list hL.isList ?_)
  refine wpAny_bind (wpAny_newObj_type ?_)
  rw [hname]
  obtain ⟨wI, wS, oI, I2, hit⟩ := iter_pins (l := l) I
  have e2 : (s.heap.push { cls := .type "list_iterator", data := .fields #[.ref l, .int 0 0] }).objs.size = s.heap.objs.size + 1 := size_push' ..
  refine wpAny_pure ⟨plainId_quiet PySem.F.plain_min_loop _, ?_⟩
  rw [e2]
  rcases Nat.eq_zero_or_pos zs.length with hn | hn
  · have ez : zs = [] := List.length_eq_zero_iff.mp hn
    have pS := I2.pin (_, seqObj "list" #[] 0) (List.mem_append_right _ List.mem_cons_self)
    obtain ⟨us', r', hL', _⟩ := I2.list hl
    refine codeAny_builtin PySem.F.entry_min_loop ?_
    rw [Around.under_plainId PySem.F.plain_min_loop _]
    show wpAny _ X.A.in1 (seqItems? (.ref (s.heap.objs.size + 1)) >>= _) _ _ _
    refine wpAny_bind (wpAny_seqItems pS.1 rfl ?_)
    show wpAny _ X.A.in1 (tryCatch (pyNext (.ref s.heap.objs.size)) _ >>= _) _ _ _
    refine wpAny_bind (wpAny_tryCatch (wpAny_pyNext_list_end (A := X.A.in1) (I.ok.hd hc) hit hL'.isList (by have := r'.length; rw [hn] at this; simp [← this]) fun h' he' => ?_))
    have I3 : Inv X pins σ H { s with heap := h' } :=
      (drop_pin (drop_pin I2)).turned (t' := s.toks) (fun b o hb e => he' b o hb e) (I2.pin (_, oI) (List.mem_append_right _ (List.mem_cons_of_mem _ List.mem_cons_self))).2.1 wI.loc wI.new wI.cel wI.pin
    show wpAny _ X.A.in1 (rule _ >>= _) _ _ _
    exact wpAny_bind (wpAny_rule (wpAny_pure ⟨d, H, I3, ru2, q0 ez H (Same.refl H)⟩))
  · exact min_firstI (I.ok.hd hc) hu ko wS wI (Nat.succ_ne_self _) hl (Nat.ne_of_lt hll) (min_turn F hb hp hr hf) hn (fun i z v s' H' hzi rz hbest I' sm => ⟨z, H', I', rz, q H' i z sm hzi hbest⟩) I2 hit
end
end FL
namespace K23
open PySem PySem.Spec PyProof.Rows L2 FL
/-! ### TooMany, raised -/
abbrev whT : Str := Str.ofString "what"
abbrev liT : Str := Str.ofString "limit"
def tmF (q : Str × Int) : List (Str × V) := [(liT, .int q.2), (whT, .str q.1)]
def bigB (rs : List Rule) : Bool := rs.any fun c => decide (40 < c.old.length) || decide (40 < c.new.length)
theorem bigB_no {rs : List Rule} : bigB rs = false ↔ ∀ c ∈ rs, c.old.length ≤ 40 ∧ c.new.length ≤ 40 := by
  unfold bigB
  rw [List.any_eq_false]
  refine forall_congr' fun c => forall_congr' fun _ => ?_
  rw [Bool.or_eq_true, decide_eq_true_eq, decide_eq_true_eq]
  omega
/-- the error that is due for the cells of several relays, one after another -/
def dueE (cs : List Rule) : Option (Str × Int) := if 400 < cs.length then some (Str.ofString "cells", 400) else if bigB (chg cs) then some (Str.ofString "signs", 40) else none
structure ErT (P : Program) (w : World) (K : PySem.W.Frag) (mg : Str → Option Value) (base : Heap) where
  C : Addr
  fI : Addr
  fd : FuncData
  T : EgC2 K mg "TooMany" whT liT C fI
  F : FnOk P w K mg base CX0 1 fI fd ["self", whT, liT] (spEr2 K whT liT)
  b : Binds K fd ["self", whT, liT] []
def spChkX (C : Addr) : Sp := fun vs H Q E => ∃ (z : Str) (U : Addr) (us : List Str), vs = [.str z, .ref U] ∧ TxtD H U us ∧ z.length ≤ 4 ∧ us.length ≤ 1000000 ∧ (us.length * z.length + 1 ≤ 400 → Q .non H) ∧
  (400 < us.length * z.length + 1 → ∀ d, H d = none → E (.ref C) (some d) (upd H d (.xd (tmF (Str.ofString "cells", 400)))))
section
variable {P : Program} {w : World} {K : PySem.W.Frag} {mg : Str → Option Value} {base : Heap}
theorem ok_chkX {f : Addr} {fd : FuncData} (F : Fun K "check_cells" "check_cells" sCheckCells f fd) (T : ErT P w K mg base) (mN : mg "len" = none) {tk : Tok} (mM : mg "MOST_CELLS" = some (.int 400 tk)) :
    FnOk P w K mg base (L2.CX P w) 3 f fd ["signs", "uneven"] (spChkX T.C) := by
  refine F.okX scCheckCells (fun vs H Q E h => ?_) (fun cdv A outer s H vs Q E hr h => ?_)
  · obtain ⟨z, U, us, rfl, _⟩ := h
    rfl
  · obtain ⟨z, U, us, rfl, ⟨kvs, hU, hk⟩, lz, few, k1, k2⟩ := h
    have sz : sizeLine = 16777216 := rfl
    refine ⟨_, pss_one (ps_if (pt_cmpR op_gt (pe_op op_add (pe_op op_mul (pe_callB call_lenD (by rfl) mN PySem.boot_len (pa_cons (pv 1) pa_nil)) (pe_callB callLen (by rfl) mN PySem.boot_len (pa_cons (pv 0) pa_nil))) pe_int)
      (pe_glob (v := .int 400) rfl mM ⟨_, rfl⟩) (nomark _)) (pss_one (ps_raise rfl (takes_of rfl rfl rfl rfl) (pmk_og T.T.og T.T.iC T.T.tI T.F hr T.b pass0 (by rfl) T.T.gC (pa_cons pe_str (pa_cons (pe_glob (v := .int 400) rfl mM ⟨_, rfl⟩) pa_nil))))) pss_nil), ?_⟩
    refine ⟨_, rfl, U, kvs, rfl, hU, _, rfl, _, z.length, rfl, ⟨(by rw [sz]; omega), rfl⟩, _, _, rfl, rfl, ?_⟩
    have hl : kvs.length = us.length := hk.len
    have up : us.length * z.length ≤ 1000000 * 4 := Nat.mul_le_mul few lz
    have hmul : ((kvs.length : Int) * (z.length : Int)) = ((us.length * z.length : Nat) : Int) := by
      rw [hl]
      exact (Int.natCast_mul _ _).symm
    refine ⟨?_, _, _, rfl, rfl, _, _, rfl, rfl, _, rfl, ?_⟩
    · exact .inr ⟨by omega, by omega⟩
    · refine ite2 (fun h => ?_) (fun h => k1 ?_)
      · have h1 := of_decide_eq_true h
        exact mkEr2 T.T.og T.T.no1 T.T.no2 fun d hd => k2 (by omega) d hd
      · have h1 : ¬ ((kvs.length : Int) * (z.length : Int) + 1 > 400) := fun q => h (decide_eq_true q)
        omega
end
/-- what a def that may raise is, by its name -/
structure CaX (P : Program) (w : World) (K : PySem.W.Frag) (mg : Str → Option Value) (base : Heap) (x : Str) (k : Nat) (ps : List Str) (sp : Sp) : Prop where
  ex : ∃ f fd, FnOk P w K mg base (L2.CX P w) k f fd ps sp ∧ Binds K fd ps [] ∧ PySem.W.keepIn K (.ref f) = true ∧ mg x = some (.ref f)
theorem pe_caX {X : Cx} {x : Str} {k : Nat} {ps : List Str} {sp : Sp} {p pos : Pos} {e : Expr} {es : List Expr} {t : TA} {E : XK} (c : CaX X.prog X.w X.K X.mg X.base x k ps sp) (hr : Room k X.A) (hg : Gl X x) (hx : Passes (L2.CX X.prog X.w) X E) (ha : PA X (e :: es) t)
    (hdb : (x == ("__debug__" : Str)) = false := by decide) (he : starEach (e :: es) X.env = (false, eval e X.env) :: starEach es X.env := by rfl) (hpl : (backTo pos (starEach es X.env)).any (·.1) = false := by rfl) :
    PE X (.Call (.Name x p) (e :: es) [] pos) (tCall sp [] E t) := by
  obtain ⟨f, fd, F, b, kp, m⟩ := c.ex
  exact pe_call F hr hg m kp b .nil hx ha hdb he hpl
/-! ### changing_cells, product_table -/
abbrev sChgC : Stmt := topS 46
abbrev sProd : Stmt := topS 44
def spChgX (K : PySem.W.Frag) (C : Addr) : Sp := fun vs H Q E => ∃ (D : Addr) (xs : List V) (cs : List Rule), vs = [.ref D] ∧ SqL K H D xs ∧ RulesAt H xs cs ∧ cs.length ≤ 100000 ∧ (∀ c ∈ cs, c.old.length ≤ 1000 ∧ c.new.length ≤ 1000) ∧
  (bigB (chg cs) = true → ∀ H' d, Same H H' → H' d = none → E (.ref C) (some d) (upd H' d (.xd (tmF (Str.ofString "signs", 40))))) ∧
  (bigB (chg cs) = false → ∀ (p : Addr) (ys : List V) (H' : Hp), Same H H' → H p = none → H' p = some (.lst ys) → RulesAt H' ys (chg cs) → Q (.ref p) H')
section
variable {P : Program} {w : World} {K : PySem.W.Frag} {mg : Str → Option Value} {base : Heap}
abbrev nChgC : List Str := ["cells", "found", "_", "old", "new", "cell"]
theorem scChgC : FnScope nChgC ["cells"] (defScope sChgC) :=
  ⟨rfl, rfl, rfl, by decide +kernel, rfl, by decide +kernel, by decide +kernel⟩
theorem ok_chgX {f : Addr} {fd : FuncData} (T : ErT P w K mg base) (F : Fun K "changing_cells" "changing_cells" sChgC f fd) {tk : Tok} (mM : mg "MOST_RULE_SIGNS" = some (.int 40 tk)) (mN : mg "len" = none) (mX : mg "max" = none) :
    FnOk P w K mg base (L2.CX P w) 3 f fd ["cells"] (spChgX K T.C) := by
  refine F.okX scChgC (fun vs H Q E h => ?_) (fun cdv A outer s H vs Q E hr h => ?_)
  · obtain ⟨_, _, _, rfl, _⟩ := h
    rfl
  · obtain ⟨D, xs, cs, rfl, hD, hcs, lcs, lens, kE, k⟩ := h
    have nd := scChgC.nd
    have sz : sizeLine = 16777216 := rfl
    refine ⟨_, pss_cons (ps_setLc (i := 1) (own := [("cell", 5)]) (g := gName 5) (tt := tTest (tOp rNe (tOp (rIxT K) (tVar 5) (tC (.int 1))) (tOp (rIxT K) (tVar 5) (tC (.int 2))))) rfl nd rfl rfl (sw_true rfl rfl rfl rfl) (pi_list (pv 0))
          (blkOk_by (N := nChgC) (sc := defScope sChgC) (by decide +kernel)) (fun _ _ _ _ _ => pg_name (i := 5) nd rfl (Or.inl rfl))
          (fun _ _ _ _ _ => pts_one (pt_cmpR op_ne (pe_ix ix_tup (pv 5) pe_int (fun _ _ => rfl)) (pe_ix ix_tup (pv 5) pe_int (fun _ _ => rfl)) (nomark _)))
          (fun _ _ _ _ _ => pv 5))
      (pss_cons (ps_for PassesOwn.leaving rfl (pi_list (pv 1)) (pg_tup rfl (pgs_cons (pg_name (i := 2) nd rfl (.inl rfl)) (pgs_cons (pg_name (i := 3) nd rfl (.inl rfl)) (pgs_cons (pg_name (i := 4) nd rfl (.inl rfl)) pgs_nil))))
        (pss_one (ps_if (pt_cmpR op_gt (pe_callB (call_max2 rfl) (by rfl) mX (by decide +kernel) (pa_cons (pe_callB callLen (by rfl) mN PySem.boot_len (pa_cons (pv 3) pa_nil)) (pa_cons (pe_callB callLen (by rfl) mN PySem.boot_len (pa_cons (pv 4) pa_nil)) pa_nil)))
          (pe_glob (v := .int 40) rfl mM ⟨_, rfl⟩) (nomark _)) (pss_one (ps_raise rfl (takes_of rfl rfl rfl rfl) (pmk_og T.T.og T.T.iC T.T.tI T.F hr T.b pass0 (by rfl) T.T.gC (pa_cons pe_str (pa_cons (pe_glob (v := .int 40) rfl mM ⟨_, rfl⟩) pa_nil))))) pss_nil)))
      (pss_one (ps_ret (pv 1)))), ?_⟩
    refine ⟨_, rfl, D, rfl, ⟨_, hD⟩, fun C hC => ?_⟩
    refine lc_it (walk_list (xs := xs)) (fun j Hj => Same H Hj ∧ ∃ (ws : List V), Hj C = some (.lst ws) ∧ RulesAt Hj ws (chg (cs.take j))) ?_ ?_ ?_ ?_
    · exact ⟨(Same.refl H).upd hC, [], upd_same, by rw [List.take_zero]; exact .nil⟩
    · rintro j Hj _ ⟨sj, _⟩
      exact sj.sqL hD
    · rintro j xv Hj0 Hj hj ⟨sj, ws, hw, hrw⟩ ⟨rfl, hxj⟩
      obtain ⟨c, hc, t, rfl, hT⟩ := L2.paired_get (RulesAt.imp hcs fun t a e => sj t _ e) hxj
      have ef : chg (cs.take (j + 1)) = chg (cs.take j) ++ [c].filter (fun c => !decide (V.str c.old = V.str c.new)) := by unfold chg; rw [take_snoc hc, List.filter_append]
      have lws := paired_len hrw
      have lf : (chg (cs.take j)).length ≤ 100000 := Nat.le_trans (List.length_filter_le _ _) (by rw [List.length_take]; omega)
      refine ⟨rfl, _, rfl, t, ruleV c, 1, .str c.old, rfl, rfl, SqT.of hT, rfl, _, rfl, t, ruleV c, 2, .str c.new, rfl, rfl, SqT.of hT, rfl, rfl, _, rfl, ?_⟩
      cases hb : decide (V.str c.old = V.str c.new) with
      | true =>
        refine iteF ?_
        refine ⟨sj, ws, hw, ?_⟩
        rw [ef, List.filter_cons, hb, List.filter_nil]
        show RulesAt Hj ws (_ ++ [])
        rw [List.append_nil]
        exact hrw
      | false =>
        refine iteT ?_
        refine ⟨_, rfl, ws, hw, by rw [sz]; omega, ?_⟩
        refine ⟨sj.upd hC, ws ++ [.ref t], upd_same, ?_⟩
        rw [ef, List.filter_cons, hb, List.filter_nil]
        refine paired_snoc (RulesAt.imp hrw fun a b e => ?_) ⟨t, rfl, ?_⟩
        · rw [upd_ne (ne_of e hw (by intro q; cases q))]
          exact e
        · rw [upd_ne (ne_of hT hw (by intro q; cases q))]
          exact hT
    · rintro Hd ⟨sd, ws, hw, hrw⟩
      have etk : cs.take xs.length = cs := List.take_of_length_le (by rw [paired_len hcs]; exact Nat.le_refl _)
      rw [etk] at hrw
      refine ⟨_, rfl, C, rfl, ⟨_, SqL.of hw⟩, for_list (xs := ws) (fun i σ Hi => ∃ o1 o2 o3 o4 : Option V, σ = [some (.ref D), some (.ref C), o1, o2, o3, o4] ∧ Hi = Hd ∧ ∀ c ∈ (chg cs).take i, c.old.length ≤ 40 ∧ c.new.length ≤ 40) ⟨_, _, _, _, rfl, rfl, fun c hc => by rw [List.take_zero] at hc; cases hc⟩ ?_ ?_ ?_⟩
      · rintro i σ Hi _ ⟨_, _, _, _, rfl, rfl, _⟩
        exact SqL.of hw
      · rintro i x σ Hi hx ⟨o1, o2, o3, o4, rfl, rfl, sofar⟩
        obtain ⟨c, hc, t, rfl, hT⟩ := L2.paired_get hrw hx
        have hcm := List.mem_of_getElem? hc
        obtain ⟨l1, l2⟩ := lens c (chg_mem.mp hcm).1
        refine ⟨t, _, rfl, SqT.of hT, rfl, _, _, rfl, _, _, rfl, _, _, rfl, rfl, ?_⟩
        refine ⟨_, rfl, _, c.old.length, rfl, ⟨(by rw [sz]; omega), rfl⟩, _, rfl, _, c.new.length, rfl, ⟨(by rw [sz]; omega), rfl⟩, _, _, rfl, ?_⟩
        refine ⟨_, _, rfl, rfl, _, rfl, ?_⟩
        refine ite2 (fun h => ?_) (fun h => ⟨_, _, _, _, rfl, rfl, ?_⟩)
        · have h1 := of_decide_eq_true h
          refine mkEr2 T.T.og T.T.no1 T.T.no2 fun d hd => kE ?_ Hi d sd hd
          cases e : bigB (chg cs) with
          | true => rfl
          | false =>
            obtain ⟨q1, q2⟩ := bigB_no.mp e c hcm
            exfalso
            revert h1
            split <;> omega
        · have h1 : ¬ (_ > (40 : Int)) := fun q => h (decide_eq_true q)
          intro c' hc'
          rw [take_snoc hc] at hc'
          rcases List.mem_append.mp hc' with q | q
          · exact sofar c' q
          · rw [List.mem_singleton.mp q]
            revert h1
            split <;> omega
      · rintro σ Hi ⟨o1, o2, o3, o4, rfl, rfl, all⟩
        rw [paired_len hrw, List.take_length] at all
        exact ⟨_, rfl, k (bigB_no.mpr all) C ws Hi sd hC hw hrw⟩
end
def spProdX (C : Addr) : Sp := fun vs H Q E => ∃ (z : Str) (d1 d2 : Addr) (r1 r2 : List Rule) (us : List Str), vs = [.str z, .ref d1, .ref d2] ∧ IdxAt H d1 r1 ∧ IdxAt H d2 r2 ∧ Abc z ∧ ROk z r1 ∧ ROk z r2 ∧ UnS z [r1, r2] us ∧
  (400 < us.length * z.length + 1 → ∀ H' d, Same H H' → H' d = none → E (.ref C) (some d) (upd H' d (.xd (tmF (Str.ofString "cells", 400))))) ∧
  (us.length * z.length + 1 ≤ 400 → ∀ H' p xs vs', Same H H' → H p = none → H' p = some (.lst xs) → UnS z [r1, r2] vs' → RulesAt H' xs (cellsL z [r1, r2] vs') → Q (.ref p) H')
theorem prec_un {z : Str} {rs : List Rule} {us : List Str} (h : UnOk z rs us) : PreC z us := fun w c hc hw => (h.mem w).mpr fun ev => (h.mem _).mp hw (by
  rw [ls_sg1]
  exact ev.down fun d hd => by rw [List.mem_singleton.mp hd]; exact hc)
theorem ovs_two {z : Str} {r1 r2 : List Rule} (h1 : ROk z r1) (h2 : ROk z r2) : OvS z [r1, r2] := fun rs h => by
  rcases List.mem_cons.mp h with rfl | h
  · exact h1.over
  · rw [List.mem_singleton.mp h]
    exact h2.over
theorem uns_len {z : Str} {r1 r2 : List Rule} {kn us : List Str} (hu : UnS z [r1, r2] us) (nd : kn.Nodup) (h : ∀ x ∈ kn, ¬ Evn (ls z) (tLs [r1, r2]) (ls x)) : kn.length ≤ us.length :=
  nodup_sub nd fun x hx => (hu.mem x).mpr (h x hx)
/-- what is known behind the first cells -/
def Kno (z : Str) (us2 : List Str) (cs : List Rule) (x : Str) : Prop := ∃ c ∈ cs, c.fr = true ∧ ∃ e, x = c.old ++ e ∧ Over z e ∧ c.new ++ e ∈ us2
theorem Kno.un {z : Str} {r1 r2 : List Rule} {us2 : List Str} {cs cs' : List Rule} (t : TabIs z r1 cs) (hs : ∀ c ∈ cs', c ∈ cs) (u2 : UnOk z r2 us2) {x : Str} (h : Kno z us2 cs' x) : ¬ Evn (ls z) (tLs [r1, r2]) (ls x) := by
  obtain ⟨c, hc, ef, e, rfl, oe, hm⟩ := h
  obtain ⟨q1, _, q3⟩ := cells_kind t (hs c hc)
  have ev := q1.mp ef
  rw [ls_app, evn2 ev oe]
  have := (u2.mem _).mp hm
  rw [ls_app, q3, FL.turn_list] at this
  exact this
theorem Kno.known {z : Str} {r1 r2 : List Rule} {us2 kn : List Str} {cs : List Rule} (t : TabIs z r1 cs) (u2 : UnOk z r2 us2) (nd : kn.Nodup) (h : ∀ x, x ∈ kn ↔ Kno z us2 cs x) : KnOk z r1 r2 kn := by
  refine ⟨nd, fun x => (h x).trans ⟨?_, ?_⟩⟩
  · rintro ⟨c, hc, ef, e, rfl, oe, hm⟩
    obtain ⟨q1, q2, q3⟩ := cells_kind t hc
    refine ⟨ls c.old, ls e, ls_app _ _, oe, q2, q1.mp ef, ?_⟩
    have := (u2.mem _).mp hm
    rw [ls_app, q3, FL.turn_list] at this
    exact this
  · rintro ⟨l, e, ex, oe, hc, ev, hn⟩
    obtain ⟨c, hcm, hco⟩ := List.mem_map.mp ((tab_mem t (st l)).mpr hc)
    obtain ⟨q1, q2, q3⟩ := cells_kind t hcm
    have hl : ls c.old = l := by rw [hco]
    refine ⟨c, hcm, q1.mpr (by rw [hl]; exact ev), st e, ls_inj (by rw [ls_app, hl, ex]), oe, (u2.mem _).mpr ?_⟩
    rw [ls_app, q3, FL.turn_list, hl]
    exact hn
section
variable {P : Program} {w : World} {K : PySem.W.Frag} {mg : Str → Option Value} {base : Heap}
abbrev nProd : List Str := ["signs", "one", "other", "inner", "outer", "known", "kind", "line", "new", "end", "uneven"]
theorem scProd : FnScope nProd ["signs", "one", "other"] (defScope sProd) :=
  ⟨rfl, rfl, rfl, by decide +kernel, rfl, by decide +kernel, by decide +kernel⟩
theorem ok_prodX {f CT : Addr} {fd : FuncData} (F : Fun K "product_table" "product_table" sProd f fd) (cC : Ca P w K mg base "cells_of" 5 ["signs", "indexes", "uneven"] (spCells K)) (cU : Ca P w K mg base "uneven_of" 6 ["signs", "index"] spUnevenOf)
    (cK : CaX P w K mg base "check_cells" 3 ["signs", "uneven"] (spChkX CT)) (cE : Ca P w K mg base "uneven_ends" 1 ["signs", "line", "uneven"] spEnds) (cL : Ca P w K mg base "uneven_lines" 4 ["signs", "indexes", "lines", "known"] (spUneven K))
    (cI : Ca P w K mg base "in_order" 4 ["lines"] (spInOrder K)) :
    FnOk P w K mg base (L2.CX P w) 7 f fd ["signs", "one", "other"] (spProdX CT) := by
  refine F.okX scProd (fun vs H Q E h => ?_) (fun cdv A outer s H vs Q E hr h => ?_)
  · obtain ⟨z, d1, d2, r1, r2, us, rfl, _⟩ := h
    rfl
  · obtain ⟨z, d1, d2, r1, r2, us, rfl, ix1, ix2, az, ok1, ok2, hus, kE, k⟩ := h
    have nd := scProd.nd
    have hu := hu_of hr
    have sz : sizeLine = 16777216 := rfl
    have ps : Passes (L2.CX P w) (cxOf (L2.CX P w) P w K mg base nProd "product_table" (defScope sProd) f cdv A outer s H E) E := passes_call (W := fun cls d _ H => E cls d H) (takes_of rfl rfl rfl rfl) fun _ _ _ _ h => h
    have two := az.lo
    refine ⟨_, pss_cons (ps_set (i := 3) nd rfl (.inl rfl) (pe_ca cU hr (by rfl) (pa_cons (pv 0) (pa_cons (pv 1) pa_nil))))
      (pss_cons (ps_set (i := 4) nd rfl (.inl rfl) (pe_ca cU hr (by rfl) (pa_cons (pv 0) (pa_cons (pv 2) pa_nil))))
      (pss_cons (ps_set (i := 5) nd rfl (.inl rfl) pe_dnewK)
      (pss_cons (ps_for PassesOwn.leaving rfl (pi_list (pe_ca cC (hr.mono (by decide)) (by rfl) (pa_cons (pv 0) (pa_cons (pe_lst (pa_cons (pv 1) pa_nil)) (pa_cons (pv 3) pa_nil)))))
          (pg_tup rfl (pgs_cons (pg_name (i := 6) nd rfl (.inl rfl)) (pgs_cons (pg_name (i := 7) nd rfl (.inl rfl)) (pgs_cons (pg_name (i := 8) nd rfl (.inl rfl)) pgs_nil))))
        (pss_one (ps_if (pt_cmpR op_eq (pv 6) pe_str (nomark _))
          (pss_cons (ps_for PassesOwn.leaving rfl (pi_list (pe_ca cE (hr.mono (by decide)) (by rfl) (pa_cons (pv 0) (pa_cons (pv 8) (pa_cons (pv 4) pa_nil))))) (pg_name (i := 9) nd rfl (.inl rfl))
            (pss_one (ps_dput hu (pv 5) (pe_op op_add_str (pv 7) (pv 9)) pe_bl rfl)))
          (pss_one (ps_expr (pe_caX cK (hr.mono (by decide)) (by rfl) ps (pa_cons (pv 0) (pa_cons (pv 5) pa_nil)))))) pss_nil)))
      (pss_cons (ps_set (i := 10) nd rfl (.inl rfl) (pe_ca cL (hr.mono (by decide)) (by rfl) (pa_cons (pv 0) (pa_cons (pe_lst (pa_cons (pv 1) (pa_cons (pv 2) pa_nil))) (pa_cons (pe_ca cI (hr.mono (by decide)) (by rfl) (pa_cons (pv 3) pa_nil)) (pa_cons (pv 5) pa_nil))))))
      (pss_cons (ps_expr (pe_caX cK (hr.mono (by decide)) (by rfl) ps (pa_cons (pv 0) (pa_cons (pv 10) pa_nil))))
      (pss_one (ps_ret (pe_ca cC (hr.mono (by decide)) (by rfl) (pa_cons (pv 0) (pa_cons (pe_lst (pa_cons (pv 1) (pa_cons (pv 2) pa_nil))) (pa_cons (pv 10) pa_nil))))))))))), ?_⟩
    refine ⟨_, rfl, _, rfl, z, d1, r1, rfl, ix1, ok1.rsOk, az.hi, fun H1 U1 us1 s1 nU1 gU1 un1 lu1 => ?_⟩
    refine ⟨_, rfl, _, rfl, z, d2, r2, rfl, ix2.same s1, ok2.rsOk, az.hi, fun H2 U2 us2 s2 nU2 gU2 un2 lu2 => ?_⟩
    have s12 := s1.trans s2
    have gU1' := gU1.same s2
    intro N hN
    have s3 : Same H2 (upd H2 N (.dK [])) := (Same.refl H2).upd hN
    have gN3 : upd H2 N (.dK []) N = some (.dK []) := upd_same
    have nHN : H N = none := s12.none hN
    generalize upd H2 N (.dK []) = H3 at s3 gN3 ⊢
    have s13 := s12.trans s3
    refine ⟨_, rfl, _, rfl, (by show 1 ≤ sizeLine; decide), fun L hL => ?_⟩
    have s4 : Same H3 (upd H3 L (.lst [.ref d1])) := (Same.refl H3).upd hL
    have gL4 : upd H3 L (.lst [.ref d1]) L = some (.lst [.ref d1]) := upd_same
    generalize upd H3 L (.lst [.ref d1]) = H4 at s4 gL4 ⊢
    have s14 := s13.trans s4
    refine ⟨_, rfl, z, L, U1, [r1], us1, rfl, idxs_one gL4 (ix1.same s14) ok1.rsOk, (gU1'.same s3).same s4, lu1, fun u hu => (by have := un_len ok1.rsOk un1 hu; omega), az.hi, fun H5 T xs s5 nT gT rT => ?_⟩
    have t1 : TabIs z r1 (cellsL z [r1] us1) := ⟨us1, un1, lu1, rfl⟩
    generalize cellsL z [r1] us1 = cs at rT t1
    have s15 := s14.trans s5
    have gN5 := s5 _ _ (s4 _ _ gN3)
    have gU2' := ((gU2.same s3).same s4).same s5
    have lxs := paired_len rT
    have hkn : ∀ {kn : List Str} {cs' : List Rule}, kn.Nodup → (∀ c ∈ cs', c ∈ cs) → (∀ x ∈ kn, Kno z us2 cs' x) → kn.length ≤ us.length := fun nd hs h => uns_len hus nd fun x hx => (h x hx).un t1 hs un2
    have nUN : U2 ≠ N := by
      obtain ⟨kv2, g2, _⟩ := gU2
      exact ne_of_none g2 hN
    have nTN : T ≠ N := fun q => by rw [q] at gT; rw [gN5] at gT; cases gT
    refine ⟨T, rfl, ⟨_, SqL.of gT⟩, for_list (xs := xs) (fun i σ Hi => ∃ (o6 o7 o8 o9 : Option V) (kvs : List (Key × V)) (kn : List Str), σ = [some (.str z), some (.ref d1), some (.ref d2), some (.ref U1), some (.ref U2), some (.ref N), o6, o7, o8, o9, none]
      ∧ Same H Hi ∧ (∀ b o, H5 b = some o → b ≠ N → Hi b = some o) ∧ Hi N = some (.dK kvs) ∧ KeysOf kvs kn ∧ kn.length * z.length + 1 ≤ 400 ∧ ∀ x, x ∈ kn ↔ Kno z us2 (cs.take i) x) ?_ ?_ ?_ ?_⟩
    · refine ⟨none, none, none, none, [], [], rfl, s15, fun _ _ e _ => e, gN5, ⟨rfl, List.nodup_nil⟩, (by show 0 * z.length + 1 ≤ 400; omega), fun x => ⟨fun h => (nomatch h), ?_⟩⟩
      rintro ⟨c, hc, _⟩
      rw [List.take_zero] at hc
      cases hc
    · rintro i σ Hi _ ⟨_, _, _, _, _, _, rfl, _, ki, _⟩
      exact SqL.of (ki _ _ gT nTN)
    · rintro i x σ Hi hx ⟨o6, o7, o8, o9, kvs, kn, rfl, si, ki, gN, hk, hc4, hm⟩
      have knf : kn.length ≤ 200 := by have h2 : kn.length * 2 ≤ kn.length * z.length := Nat.mul_le_mul_left _ two
                                       omega
      obtain ⟨c, hc, t, rfl, hT0⟩ := L2.paired_get rT hx
      have ntN : t ≠ N := fun q => by rw [q] at hT0; rw [gN5] at hT0; cases hT0
      have hT := ki _ _ hT0 ntN
      have hcm : c ∈ cs := List.mem_of_getElem? hc
      obtain ⟨co1, co2, co3, co4⟩ := cell_ok ok1 t1 hcm
      have etk : cs.take (i + 1) = cs.take i ++ [c] := take_snoc hc
      have knN : ∀ x, Kno z us2 (cs.take (i + 1)) x ↔ Kno z us2 (cs.take i) x ∨ (c.fr = true ∧ ∃ e, x = c.old ++ e ∧ Over z e ∧ c.new ++ e ∈ us2) := fun x => by
        rw [etk]
        constructor
        · rintro ⟨c', hc', q⟩
          rcases List.mem_append.mp hc' with h | h
          · exact .inl ⟨c', h, q⟩
          · rw [List.mem_singleton.mp h] at q
            exact .inr q
        · rintro (⟨c', hc', q⟩ | q)
          · exact ⟨c', List.mem_append_left _ hc', q⟩
          · exact ⟨c, List.mem_append_right _ (List.mem_singleton.mpr rfl), q⟩
      refine ⟨t, _, rfl, SqT.of hT, rfl, _, _, rfl, _, _, rfl, _, _, rfl, rfl, ?_⟩
      cases ef : c.fr with
      | false =>
        refine ⟨_, rfl, rfl, _, rfl, ?_⟩
        refine ite2 (fun h => absurd (of_decide_eq_true h) (strV_ne (by decide +kernel))) (fun _ => ?_)
        refine ⟨_, _, _, o9, kvs, kn, rfl, si, ki, gN, hk, hc4, fun x => ?_⟩
        rw [hm x, knN x]
        exact ⟨.inl, fun h => h.elim id fun q => by rw [ef] at q; cases q.1⟩
      | true =>
        refine ⟨_, rfl, rfl, _, rfl, ?_⟩
        refine ite2 (fun _ => ?_) (fun h => absurd (decide_eq_true rfl) h)
        have gUi : TxtD Hi U2 us2 := by
          obtain ⟨kv2, g2, k2⟩ := gU2'
          exact ⟨kv2, ki _ _ g2 (fun q => nUN q), k2⟩
        refine ⟨_, rfl, _, rfl, _, rfl, z, c.new, U2, us2, rfl, gUi, az.up, prec_un un2, az.hi, by omega, lu2, fun u hu => (by have := un_len ok2.rsOk un2 hu; omega), fun H6 B es s6 nB gB ne me le => ?_⟩
        have nBN : B ≠ N := fun q => by rw [q, gN] at nB; cases nB
        have hin : ∀ {j : Nat} {x : Str}, (Kno z us2 (cs.take i) x ∨ ∃ e ∈ es.take j, x = c.old ++ e) → Kno z us2 (cs.take (i + 1)) x := fun {j x} h => (knN x).mpr (h.imp id fun ⟨e, he, q⟩ => ⟨ef, e, q, (me e).mp (List.mem_of_mem_take he)⟩)
        refine ⟨B, rfl, ⟨_, SqL.of gB⟩, for_list (xs := es.map V.str) (fun j σ Hj => ∃ (o9 : Option V) (kvs : List (Key × V)) (kn : List Str), σ = [some (.str z), some (.ref d1), some (.ref d2), some (.ref U1), some (.ref U2), some (.ref N), some (.str (kd true)), some (.str c.old), some (.str c.new), o9, none]
          ∧ Same H Hj ∧ (∀ b o, H5 b = some o → b ≠ N → Hj b = some o) ∧ Hj B = some (.lst (es.map V.str)) ∧ Hj N = some (.dK kvs) ∧ KeysOf kvs kn ∧ kn.length ≤ 200 + j ∧ ∀ x, x ∈ kn ↔ Kno z us2 (cs.take i) x ∨ ∃ e ∈ es.take j, x = c.old ++ e) ?_ ?_ ?_ ?_⟩
        · refine ⟨o9, kvs, kn, rfl, si.trans s6, fun b o e nb => s6 b o (ki b o e nb), gB, s6 _ _ gN, hk, knf, fun x => ?_⟩
          rw [hm x, List.take_zero]
          exact ⟨.inl, fun h => h.elim id fun ⟨_, h, _⟩ => (nomatch h)⟩
        · rintro j σ Hj _ ⟨_, _, _, rfl, _, _, g, _⟩
          exact SqL.of g
        · rintro j x σ Hj hxe ⟨o9', kvs', kn', rfl, sj, kj, gBj, gNj, hk', lkj, hm'⟩
          rw [List.getElem?_map] at hxe
          cases hy : es[j]? with
          | none =>
            rw [hy] at hxe
            cases hxe
          | some e =>
            rw [hy] at hxe
            obtain rfl : V.str e = x := Option.some.inj hxe
            obtain ⟨oe, he2⟩ := (me e).mp (List.mem_of_getElem? hy)
            have l2 := un_len ok2.rsOk un2 he2
            rw [len_app] at l2
            have hje : j < es.length := (List.getElem?_eq_some_iff.mp hy).1
            have lkv : kvs'.length = kn'.length := hk'.len
            refine ⟨_, rfl, _, rfl, _, rfl, _, _, rfl, rfl, (by rw [sz]; omega), N, _, rfl, DPut.k (k := Sum.inr (c.old ++ e)) gNj (by rw [sz]; omega), ?_⟩
            refine ⟨_, _, _, rfl, sj.upd nHN, fun b o q nb => by rw [upd_ne nb]; exact kj b o q nb, by rw [upd_ne nBN]; exact gBj, upd_same, hk'.put _ _, Nat.le_trans (addB_len _ _) (by omega), fun x => ?_⟩
            rw [mem_addB, hm' x, take_snoc hy]
            constructor
            · rintro ((h | ⟨e', h, q⟩) | h)
              · exact .inl h
              · exact .inr ⟨e', List.mem_append_left _ h, q⟩
              · exact .inr ⟨e, List.mem_append_right _ (List.mem_singleton.mpr rfl), h⟩
            · rintro (h | ⟨e', h, q⟩)
              · exact .inl (.inl h)
              · rcases List.mem_append.mp h with h | h
                · exact .inl (.inr ⟨e', h, q⟩)
                · rw [List.mem_singleton.mp h] at q
                  exact .inr q
        · rintro σ Hj ⟨o9', kvs', kn', rfl, sj, kj, gBj, gNj, hk', lkj, hm'⟩
          rw [List.length_map, List.take_length] at hm'
          rw [List.length_map] at lkj
          have hm2 : ∀ x, x ∈ kn' ↔ Kno z us2 (cs.take (i + 1)) x := fun x => by
            rw [hm' x, knN x]
            refine or_congr Iff.rfl ⟨fun ⟨e, he, q⟩ => ⟨ef, e, q, (me e).mp he⟩, fun ⟨_, e, q, he⟩ => ⟨e, (me e).mpr he, q⟩⟩
          have lk : kn'.length ≤ us.length := hkn hk'.2 (fun c hc => List.mem_of_mem_take hc) fun x hx => (hm2 x).mp hx
          have lkz := Nat.mul_le_mul_right z.length lk
          refine ⟨_, rfl, _, rfl, z, N, kn', rfl, ⟨kvs', gNj, hk'⟩, az.hi, by omega, fun le4 => ?_, fun gt d hd => kE (by omega) Hj d sj hd⟩
          exact ⟨_, _, _, o9', kvs', kn', rfl, sj, kj, gNj, hk', le4, hm2⟩
    · rintro σ Hi ⟨o6, o7, o8, o9, kvs, kn, rfl, si, ki, gN, hk, hc4, hm⟩
      have knf : kn.length ≤ 200 := by have h2 : kn.length * 2 ≤ kn.length * z.length := Nat.mul_le_mul_left _ two
                                       omega
      rw [lxs, List.take_length] at hm
      have hko := Kno.known (r2 := r2) t1 un2 hk.2 hm
      have lkn : kn.length ≤ us.length := hkn hk.2 (fun c hc => hc) fun x hx => (hm x).mp hx
      obtain ⟨hv, hvf⟩ := prod_uneven (ovs_two ok1 ok2) un1 hko
      have evl : (unevenL z [r1, r2] (ordL us1) kn).length = us.length := (uns_perm hv hus).length_eq
      have hvl : ∀ u ∈ unevenL z [r1, r2] (ordL us1) kn, u.length ≤ 1000 := fun u hu => by
        have hn := (hv.mem u).mp hu
        have ho := uns_over (ovs_two ok1 ok2) hn
        rw [str_len]
        rcases cell_of (z := ls z) (F := tL r1) _ (ls u) rfl ho with q | ⟨l, e, eq, ev, hc⟩
        · exact Nat.le_trans (asked_max (M := 40) (fun r hr => (ok1.ok r hr).o2) q) (by decide)
        · have he : ∀ c ∈ e, c ∈ ls z := fun c hc => ho c (by show c ∈ ls u; rw [eq]; exact List.mem_append_right _ hc)
          rw [eq, evn2 ev he] at hn
          have q1 := asked_max (M := 40) (fun r hr => (ok2.ok r hr).o2) hn
          have q2 := cell_max (M := 40) (fun r hr => (ok1.ok r hr).o2) hc
          show (ls u).length ≤ 1000
          rw [eq, List.length_append]
          rw [List.length_append] at q1
          omega
      have gUa : ∃ kv1, Hi U1 = some (.dK kv1) ∧ KeysOf kv1 us1 := by
        obtain ⟨kv1, g1, k1⟩ := gU1'
        exact ⟨kv1, ki _ _ (s5 _ _ (s4 _ _ (s3 _ _ g1))) (ne_of_none g1 hN), k1⟩
      refine ⟨_, rfl, _, rfl, _, rfl, (by show 2 ≤ sizeLine; decide), fun M hM => ?_⟩
      have s7 : Same Hi (upd Hi M (.lst [.ref d1, .ref d2])) := (Same.refl Hi).upd hM
      have gM : upd Hi M (.lst [.ref d1, .ref d2]) M = some (.lst [.ref d1, .ref d2]) := upd_same
      generalize upd Hi M (.lst [.ref d1, .ref d2]) = H7 at s7 gM ⊢
      obtain ⟨kv1, g1, k1⟩ := gUa
      refine ⟨_, rfl, U1, us1, rfl, ⟨kv1, s7 _ _ g1, k1.1⟩, fun b hb => (by have := un_len ok1.rsOk un1 hb; rw [sz]; omega), fun H8 B s8 nB gB => ?_⟩
      have s8 : Same H7 H8 := s8
      have sb := (si.trans s7).trans s8
      have idx2 : ∀ {G : Hp} {A : Addr}, Same H G → G A = some (.lst [.ref d1, .ref d2]) → Idxs K G A [r1, r2] := fun {G A} sg ga =>
        ⟨⟨[d1, d2], SqL.of ga, .cons (ix1.same sg) (.cons (ix2.same sg) .nil)⟩, by show 2 ≤ 2; decide, fun rs' h' r hr => by
          rcases List.mem_cons.mp h' with rfl | h'
          · exact ⟨ok1.rsOk.olds r hr, ok1.rsOk.news r hr⟩
          · rw [List.mem_singleton.mp h'] at hr
            exact ⟨ok2.rsOk.olds r hr, ok2.rsOk.news r hr⟩⟩
      refine ⟨_, rfl, z, M, B, N, [r1, r2], ordL us1, kn, rfl, idx2 sb (s8 _ _ gM), SqL.of gB, ⟨kvs, s8 _ _ (s7 _ _ gN), hk⟩, fun y hy => (by have := un_len ok1.rsOk un1 (mem_ordL.mp hy); omega), az.hi, by rw [ordL_len]; omega, by omega, fun H9 W s9 nW gW => ?_⟩
      have sb9 := sb.trans s9
      generalize unevenL z [r1, r2] (ordL us1) kn = vs at hv evl hvl gW hvf
      refine ⟨_, rfl, _, rfl, z, W, vs, rfl, gW, az.hi, by omega, fun le4 => ?_, fun gt d hd => kE (by rw [← evl]; exact gt) H9 d sb9 hd⟩
      have vsf : vs.length ≤ 400 := by have h2 : vs.length * 2 ≤ vs.length * z.length := Nat.mul_le_mul_left _ two
                                       omega
      refine ⟨_, rfl, _, rfl, _, rfl, (by show 2 ≤ sizeLine; decide), fun A2 hA2 => ?_⟩
      have s10 : Same H9 (upd H9 A2 (.lst [.ref d1, .ref d2])) := (Same.refl H9).upd hA2
      have sb10 := sb9.trans s10
      refine ⟨_, rfl, z, A2, W, [r1, r2], vs, rfl, idx2 sb10 upd_same, gW.same s10, by omega, hvl, az.hi, fun H' p ys s' np gp rp => ?_⟩
      exact k (by rw [← evl]; exact le4) H' p ys vs (sb10.trans s') (sb10.none np) gp hv rp
end
end K23
namespace FL
open PySem PySem.Spec PyProof.Rows L2
/-! ### sorted(things, key=f), f any: its keys by data -/
section
variable {α : Type}
def sortG (key : V × α → PyData) (zs : List (V × α)) : List (V × α) := zs.mergeSort (PySem.W.dataLe false key)
structure SortOk (key : V × α → PyData) (zs : List (V × α)) : Prop where
  al : PySem.W.AllAlike (zs.map key)
  so : PySem.W.Sortable (zs.map key)
  dp : ∀ z ∈ zs, (key z).depth ≤ 8
variable {X : Cx} {pins : List (Addr × Obj)} {σ : L2.St} {H : Hp} {s : Shared}
/-- what a call f(x) must do: its key, all else as it was -/
def TurnG (X : Cx) (A' : Around) (f : Value) (pins0 : List (Addr × Obj)) (H : Hp) (σ : L2.St) (zs : List (V × α)) (key : V × α → PyData) : Prop :=
  ∀ (pins : List (Addr × Obj)) (s : Shared) (Hi : Hp) (u : Value) (z : V × α), (∀ p ∈ pins0, p ∈ pins) → z ∈ zs → Inv X pins σ Hi s → (∀ b o, H b = some o → Hi b = some o) → RelV z.1 u →
    wpAny (model X.prog X.w) A' (call f [u]) (EP X pins σ fun v H' => (∀ b o, Hi b = some o → H' b = some o) ∧ Dp X.K H' v (key z)) (fun _ _ => False) s
theorem vals_eachG : ∀ {zs : List (V × α)} {us : List Value}, PySem.W.EachIs (fun u (z : V × α) => RelV z.1 u) us zs → Vals (zs.map Prod.fst) us
  | _, _, .nil => .nil
  | _, _, .cons h t => .cons h (vals_eachG t)
theorem each_valsG : ∀ {zs : List (V × α)} {us : List Value}, Vals (zs.map Prod.fst) us → PySem.W.EachIs (fun u (z : V × α) => RelV z.1 u) us zs
  | [], _, h => by cases h; exact .nil
  | _ :: _, _, h => by
    cases h with
    | cons h t => exact .cons h (each_valsG t)
theorem key_restG {A' : Around} {f : Value} {a kS : Addr} {e1 : Nat} {us : List Value} {zs : List (V × α)} {key : V × α → PyData} {E : Value → Shared → Prop} {P : PySem.Fin → Shared → Prop}
    (I : Inv X ((kS, seqObj "list" #[] 0) :: (a, seqObj "list" #[] e1) :: pins) σ H s) (wa : Own X pins a) (wk : Own X pins kS) (hka : kS ≠ a) (r : Vals (zs.map Prod.fst) us) (hZ : zs.length ≤ sizeLine)
    (hu : A'.units + 9 < cLine) (ko : SortOk key zs) (turn : TurnG X A' f pins H σ zs key)
    (h : ∀ (s' : Shared) (H' : Hp), Inv X pins σ H' s' → (∀ b o, H b = some o → H' b = some o) → H a = none → H' a = some (.lst ((sortG key zs).map Prod.fst)) → P (.done (.ret .none)) s') :
    wpAny (model X.prog X.w) A' (ksk_rest a f false us.toArray e1 (.ref kS)) P E s := by
  have hl : us.length = zs.length := by rw [← r.length, List.length_map]
  have na0 : H a = none := (I.pin (a, seqObj "list" #[] e1) (List.mem_append_right _ (List.mem_cons_of_mem _ List.mem_cons_self))).2.1
  unfold ksk_rest
  refine wpAny_bind (wpAny_rule ?_)
  first
    | rw [List.forIn_toArray]
    | (rw [← Array.forIn_toList]; simp only [List.toList_toArray])
    | rw [← Array.forIn_toList]
  refine wpAny_bind (ksk_fold (fun i s' => ∃ Hi kA e, Inv X ((kS, seqObj "list" kA e) :: (a, seqObj "list" #[] e1) :: pins) σ Hi s' ∧ (∀ b o, H b = some o → Hi b = some o)
      ∧ PySem.W.EachIs (fun (v : Value) (z : V × α) => ∃ vv, RelV vv v ∧ Dp X.K Hi vv (key z)) kA.toList (zs.take i)) us 0 s
    ⟨H, #[], 0, I, fun _ _ e => e, by rw [List.take_zero]; exact .nil⟩ ?step ?done)
  case step =>
    rintro j x s' hx ⟨Hi, kA, e, I', kp, ek⟩
    simp only [Nat.zero_add] at ek ⊢
    have hj : j < us.length := (List.getElem?_eq_some_iff.mp hx).1
    have hjz : j < zs.length := by omega
    have hz : zs[j]? = some zs[j] := List.getElem?_eq_getElem hjz
    have hxf : (zs.map Prod.fst)[j]? = some zs[j].1 := by rw [List.getElem?_map, hz]; rfl
    obtain ⟨u', hu', ru⟩ := r.get hxf
    rw [hx] at hu'
    obtain rfl : x = u' := Option.some.inj hu'
    refine wpAny_bind (wpAny_attempt (wpAny_mono (turn _ s' Hi x zs[j] (fun p hp => List.mem_cons_of_mem _ (List.mem_cons_of_mem _ hp)) (List.getElem_mem hjz) I' kp ru) (fun v s'' he => ?_) fun _ _ hF => hF.elim))
    obtain ⟨v', H'', I2, rv, kp2, hd2⟩ := he
    try dsimp only
    have pk := I2.pin (kS, seqObj "list" kA e) (List.mem_append_right _ List.mem_cons_self)
    have s1 := Heap.SameBut.update s''.heap kS (Obj.mapSeq (·.push v))
    obtain ⟨c2, hc2⟩ : ∃ c2, (s''.heap.update kS (Obj.mapSeq (·.push v))).get? kS = some (seqObj "list" (kA.push v) c2) := ⟨_, get?_update_seq pk.1 (·.push v)⟩
    have hz2 : kA.size ≤ sizeLine := by
      have h1 := ek.length
      rw [Array.length_toList, List.length_take] at h1
      omega
    refine wpAny_bind (listUpdate_at pk.1 rfl ?_ hz2 (Nat.le_trans (Nat.le_of_eq (Array.size_push ..)) (Nat.succ_le_succ hz2)))
    refine wpAny_pure ⟨rfl, H'', kA.push v, c2, re_pin (t' := s''.toks) I2 (wk.cons hka.symm) s1 hc2 seq_nd, fun b o q => kp2 b o (kp b o q), ?_⟩
    have e2 : zs.take (j + 1) = zs.take j ++ [zs[j]] := by rw [List.take_add_one, hz]; simp
    have e3 : (kA.push v).toList = kA.toList ++ [v] := by simp
    rw [e2, e3]
    exact PySem.W.each_snoc (R := fun (v : Value) (z : V × α) => ∃ vv, RelV vv v ∧ Dp X.K H'' vv (key z)) ⟨v', rv, hd2⟩ (ek.mono fun _ _ ⟨q, e, hq⟩ => ⟨q, e, Dp.same kp2 hq⟩)
  case done =>
    rintro s' ⟨Hi, kA, e, I', kp, ek⟩
    have e3 : zs.take (0 + us.length) = zs := List.take_of_length_le (by omega)
    rw [e3] at ek
    have pk := I'.pin (kS, seqObj "list" kA e) (List.mem_append_right _ List.mem_cons_self)
    have pa := I'.pin (a, seqObj "list" #[] e1) (List.mem_append_right _ (List.mem_cons_of_mem _ List.mem_cons_self))
    have ek' : PySem.W.EachIs (fun (v : Value) (z : V × α) => ∃ as, Reads s'.heap v (key z) as) kA.toList zs := ek.mono fun v z ⟨p, e, hp⟩ => Dp.reads I' _ _ _ hp e
    have hk' : PySem.W.EachIs (fun v k => ∃ as, Reads s'.heap v k as) kA.toList (zs.map key) := PySem.W.each_map (R := fun v k => ∃ as, Reads s'.heap v k as) key ek'
    have hsz : kA.size = us.length := by
      have h1 := ek.length
      rw [Array.length_toList] at h1
      omega
    try dsimp only
    refine wpAny_bind (listItems_at pk.1 rfl ?_)
    refine PySem.W.keyH_end (κ := PySem.W.dataKind s'.heap (zs.map key)) (h₁ := PySem.W.hideAll s'.heap [kS]) hide1 (PySem.W.hideAll_none _ List.mem_cons_self) pk.1 pa.1 hka
      (PySem.W.SortsAt.data hk' ko.al ko.so (PySem.W.bound_map (A := A') fun z hz => by have := ko.dp z hz; omega)) hsz (by omega) fun h' tk c kp3 ha3 => ?_
    have eo : PySem.W.EachIs (fun u (z : V × α) => RelV z.1 u) (PySem.W.sortVals (PySem.W.dataKind s'.heap (zs.map key)) false kA.toList us) (sortG key zs) :=
      PySem.W.keyedOut_each key ⟨s'.heap, kA.toList, ko.al, rfl, hk'⟩ (each_valsG r)
    generalize PySem.W.sortVals (PySem.W.dataKind s'.heap (zs.map key)) false kA.toList us = out at eo ha3
    have I0 : Inv X pins σ Hi s' := drop_pin (drop_pin I')
    have na : Hi a = none := pa.2.1
    have nk : Hi kS = none := pk.2.1
    have keepAll : ∀ b o, b ∉ [a, kS] → s'.heap.get? b = some o → h'.get? b = some o := fun b o hb q =>
      kp3 b o (fun z => hb (by rw [z]; exact List.mem_cons_self)) (PySem.W.hideAll_get _ q fun z => hb (List.mem_cons_of_mem _ z))
    have nt : ∀ b u, Hi b = some u → b ∉ [a, kS] := fun b u q z => by
      rcases List.mem_cons.mp z with z | z
      · rw [z, na] at q; cases q
      · rw [List.mem_singleton.mp z, nk] at q; cases q
    have kpU : ∀ b o, Hi b = some o → (upd Hi a (.lst ((sortG key zs).map Prod.fst))) b = some o := fun b o q => by rw [upd_ne (ne_of_none q na)]; exact q
    refine h { s' with heap := h', toks := tk } (upd Hi a (.lst ((sortG key zs).map Prod.fst))) ?_ (fun b o q => kpU b o (kp b o q)) na0 upd_same
    refine I0.step (g' := s'.gens) (d' := s'.drawn) (ch := [a, kS]) (fun b hb => ?_) (fun b o _ _ hc q _ => keepAll b o hc q) (fun b o _ _ hc q _ => ⟨o.slots, keepAll b o hc q⟩)
      (fun b o hc _ n => by rw [upd_ne (fun z => hc (by rw [z]; exact List.mem_cons_self))]; exact n) (fun b o hc q => ⟨o, keepAll b o hc q⟩) (fun b xs q => kpU b _ q) (fun b o u q => kpU b _ q) (fun b ps q => ⟨#[], by rw [kpU b _ q]; simp⟩) (fun m hm => ?_) (fun b u q => ?_) I0.bare
    · rcases List.mem_cons.mp hb with rfl | hb
      · exact ⟨wa.new, wa.loc, wa.cel, wa.pin⟩
      · rw [List.mem_singleton.mp hb]
        exact ⟨wk.new, wk.loc, wk.cel, wk.pin⟩
    · obtain ⟨o, es, ep, ho, q⟩ := hm
      refine ⟨o, es, ep, keepAll _ o (fun z => ?_) ho, q⟩
      rcases List.mem_cons.mp z with z | z
      · exact wa.loc z.symm
      · exact wk.loc (List.mem_singleton.mp z).symm
    · by_cases hb : b = a
      · rw [hb] at q ⊢
        rw [upd_same] at q
        cases q
        refine ⟨?_, out, c, vals_eachG eo, ha3⟩
        have h1 := (vals_eachG eo).length
        rw [List.length_map]
        have h2 : (sortG key zs).length = zs.length := (List.mergeSort_perm _ _).length_eq
        omega
      · rw [upd_ne hb] at q
        exact (I0.hok b u q).stay (fun d v hd y => keepAll d v (by
          rcases hd with z | z
          · rw [z]; exact nt b u q
          · exact nt d _ z) y) (fun d y => kpU d _ y) fun d xs y => kpU d _ y

theorem key_sortedG {f l : Addr} {zs : List (V × α)} {key : V × α → PyData} {Q : VK} (I : Inv X pins σ H s) (hl : SqL X.K H l (zs.map Prod.fst)) (hu : X.A.units + 64 < cLine) (ko : SortOk key zs) (turn : TurnG X X.A.in1.in1 (.ref f) pins H σ zs key)
    (h : ∀ (H' : Hp) (a : Addr), (∀ b o, H b = some o → H' b = some o) → H a = none → H' a = some (.lst ((sortG key zs).map Prod.fst)) → Q (.ref a) H') :
    wpAny (model X.prog X.w) X.A (call (.builtin "sorted") [.ref l] [(Str.ofString "key", .ref f)]) (EP X pins σ Q) X.xe s := by
  obtain ⟨us, r, hL, hz⟩ := I.list hl
  have hzl : zs.length = us.length := by rw [← r.length, List.length_map]
  rw [List.length_map] at hz
  refine PySem.W.sorted_of_sort hL.isList (by omega) (ksk_s1 _ _) (fun _ => ksk_l1 _ _) fun E' => ?_
  rw [ksk_t1]
  have fresh : s.heap.objs.size ≤ s.heap.objs.size + 1 := Nat.le_succ _
  have wa0 : Own X pins (s.heap.objs.size + 1) := Own.of I fresh
  have hna : H (s.heap.objs.size + 1) = none := I.hok.fresh fresh
  have ho := PySem.W.copyHeap_at s.heap us
  have hsz : (PySem.W.copyHeap s.heap us).objs.size = s.heap.objs.size + 2 := by
    unfold PySem.W.copyHeap
    rw [size_push', Heap.size_update, size_push']
  obtain ⟨e1, ho1⟩ : ∃ e1, ((PySem.W.copyHeap s.heap us).update (s.heap.objs.size + 1) (Obj.mapSeq fun _ => (#[] : Array Value))).get? (s.heap.objs.size + 1) = some (seqObj "list" #[] e1) := ⟨_, get?_update_seq ho fun _ => #[]⟩
  unfold ksk_tree
  refine wpAny_bind (listItems_at ho rfl ?_)
  refine wpAny_bind (listUpdate_at ho rfl ?_ (by rw [List.size_toArray]; omega) (Nat.zero_le _))
  refine wpAny_bind (seqEpoch_at ho1 rfl ?_)
  refine wpAny_bind (wpAny_newTuple ?_ (by show us.length ≤ _; omega))
  refine wpAny_bind (wpAny_newList ?_ (Nat.zero_le _))
  refine wpAny_holding ?_
  have hkS : (((PySem.W.copyHeap s.heap us).update (s.heap.objs.size + 1) (Obj.mapSeq fun _ => (#[] : Array Value))).push (seqObj "tuple" us.toArray 0)).objs.size = s.heap.objs.size + 3 := by
    rw [size_push', Heap.size_update, hsz]
  have wk0 : Own X pins (s.heap.objs.size + 3) := Own.of I (Nat.le_add_right _ _)
  have hnk : H (s.heap.objs.size + 3) = none := I.hok.fresh (Nat.le_add_right _ _)
  have ne : s.heap.objs.size + 3 ≠ s.heap.objs.size + 1 := by omega
  have kp : ∀ b o, s.heap.get? b = some o → ((((PySem.W.copyHeap s.heap us).update (s.heap.objs.size + 1) (Obj.mapSeq fun _ => (#[] : Array Value))).push (seqObj "tuple" us.toArray 0)).push (seqObj "list" #[] 0)).get? b = some o := fun b o q => PySem.W.sorting_copy_old q
  have I1 : Inv X pins σ H { s with heap := (((PySem.W.copyHeap s.heap us).update (s.heap.objs.size + 1) (Obj.mapSeq fun _ => (#[] : Array Value))).push (seqObj "tuple" us.toArray 0)).push (seqObj "list" #[] 0) } := I.kept (t' := s.toks) kp
  have atA : ((((PySem.W.copyHeap s.heap us).update (s.heap.objs.size + 1) (Obj.mapSeq fun _ => (#[] : Array Value))).push (seqObj "tuple" us.toArray 0)).push (seqObj "list" #[] 0)).get? (s.heap.objs.size + 1) = some (seqObj "list" #[] e1) := Heap.get?_push_of_some _ (Heap.get?_push_of_some _ ho1)
  have atK : ((((PySem.W.copyHeap s.heap us).update (s.heap.objs.size + 1) (Obj.mapSeq fun _ => (#[] : Array Value))).push (seqObj "tuple" us.toArray 0)).push (seqObj "list" #[] 0)).get? (s.heap.objs.size + 3) = some (seqObj "list" #[] 0) := by
    have q := Heap.get?_push_size (h := ((PySem.W.copyHeap s.heap us).update (s.heap.objs.size + 1) (Obj.mapSeq fun _ => (#[] : Array Value))).push (seqObj "tuple" us.toArray 0)) (o := seqObj "list" #[] 0) rfl
    rw [hkS] at q
    exact q
  have I2 := put_pin (put_pin I1 wa0 atA hna seq_nd) (wk0.cons ne.symm) atK hnk seq_nd
  rw [hkS]
  have turn_ := turn
  exact key_restG I2 wa0 wk0 ne r (by omega) (by show X.A.units + 1 + 1 + 9 < cLine; omega) ko turn_ fun s' H' I' kp' na ha => ⟨rfl, .ref _, H', I', rfl, h H' _ kp' na ha⟩
end
/-- sorted(l, key=f): what it asks -/
def rSortG {α : Type} (K : PySem.W.Frag) (f : Addr) (sp : Sp) : List V → List V → Hp → VK → Prop := fun vs ws H Q => ∃ (l : Addr) (zs : List (V × α)) (key : V × α → PyData), vs = [.ref l] ∧ ws = [.ref f] ∧ SqL K H l (zs.map Prod.fst) ∧ SortOk key zs
  ∧ (∀ (Hi : Hp) (z : V × α), z ∈ zs → Same H Hi → sp [z.1] Hi (fun v H' => Same Hi H' ∧ Dp K H' v (key z)) E0)
  ∧ ∀ H' a, Same H H' → H a = none → H' a = some (.lst ((sortG key zs).map Prod.fst)) → Q (.ref a) H'
section
variable {X : Cx}
theorem call_sortG {α : Type} {f : Addr} {fd : FuncData} {k : Nat} {ps : List Str} {sp : Sp} (F : FnOk X.prog X.w X.K X.mg X.base CX0 k f fd ps sp) (hb : Binds X.K fd ps []) (hp : ps.length = 1) (hr : Room (k + 2) X.A) :
    CallRK X (.builtin "sorted") [Str.ofString "key"] (rSortG (α := α) X.K f sp) := by
  intro pins s σ H vs ws us us2 Q I r1 r2 h
  obtain ⟨l, zs, key, rfl, rfl, hl, ko, hf, q⟩ := h
  obtain rfl := Vals.ref1 r1
  obtain rfl := Vals.ref1 r2
  refine key_sortedG I hl (by have := hr.un; omega) ko (fun pins2 s2 Hi u z _ hz I2 kp ru => ?_) fun H' a kp na ha => q H' a kp na ha
  have rv : Vals [z.1] ([u] ++ []) := .cons ru .nil
  refine wpAny_call (codeAny_mono (F.run X.A.in1.in1 X.stack s2 Hi ⟨[u], []⟩ ([u] ++ []) [z.1] (fun v H' => (∀ b o, Hi b = some o → H' b = some o) ∧ Dp X.K H' v (key z)) E0 hr.in1.in1 I2.env0.in1.in1 (hb s2 [u] I2.kIn (by rw [hp]; rfl)) rv (hf Hi z hz kp)) fun r s' hq => ?_)
  cases r with
  | error e => exact hq
  | ok fl =>
    cases fl with
    | ret u => exact I2.after hq
    | next => exact False.elim hq
    | brk => exact False.elim hq
    | cont => exact False.elim hq
end
end FL
namespace FL
open PySem PySem.Spec PyProof.Rows L2 LamX
/-! ### sorted(things, key=lambda x: body): a lambda of one parameter that captures nothing -/
/-- the lambda's body, run in a context of its own -/
abbrev lamX (X : Cx) (N : List Str) (scope : Scope) (f c' : Addr) (A : Around) (s : Shared) (H : Hp) : Cx :=
  cxOf CX0 X.prog X.w X.K X.mg X.base N (X.env.qual ++ "<lambda>") scope f (.ref c') A X.stack s H E0
section
variable {X : Cx} {pins : List (Addr × Obj)} {σ : L2.St} {H : Hp} {s : Shared}
theorem lam_pin {f : Addr} {obj : Obj} {fd : FuncData} (I : Inv X pins σ H s) (hf : s.heap.get? f = some obj) (hd : obj.data = .func fd) (hn : H f = none) (hfr : f ∉ frs X.stack) : Inv X ((f, obj) :: pins) σ H s := by
  refine I.pins_of fun p hp => ?_
  rcases List.mem_cons.mp hp with rfl | hp
  · refine ⟨hf, hn, fun e => ?_, fun z => hfr ?_, fun v e => ?_⟩
    · obtain ⟨m, ⟨o, es, ep, ho, q, _⟩, _⟩ := I.loc
      have e' : f = X.env.locals := e
      rw [← e', hf] at ho
      cases ho
      rw [hd] at q
      cases q
    · rcases I.ok.stk with e | ⟨e, _⟩
      · rw [e]; exact z
      · rw [e]
        unfold frs
        rw [List.filterMap_cons]
        split
        · exact z
        · exact List.mem_cons_of_mem _ z
    · have e' : obj.data = .cell v := e
      rw [hd] at e'
      cases e'
  · exact I.pin p (List.mem_append_right _ hp)
/-- a turn of the lambda -/
theorem lam_turn {α : Type} {N : List Str} {a : Str} {f c' : Addr} {pm ctv : Value} {params : Arguments} {body : Expr} {scope : Scope} {cl : List (Str × Addr)} {k : Nat} {tb : TE} {zs : List (V × α)} {key : V × α → PyData} {pins0 : List (Addr × Obj)} {A' : Around}
    (S : FnScope N [a] scope) (hbind : ∀ (u : Value), bindArgs (PySem.W.kla_fn "<lambda>" (X.env.qual ++ "<lambda>") params body scope cl pm (.ref c') ctv) ⟨[u], []⟩ = pure [(a, u)])
    (hpin : (f, PySem.W.kla_obj "<lambda>" (X.env.qual ++ "<lambda>") params body scope cl pm c' ctv) ∈ pins0) (hcl : cl = []) (hco : H c' = some (CodeO c' (X.env.qual ++ "<lambda>")))
    (hA : A'.frames = some X.stack) (hh : A'.handled = none) (hr : Room (k + 1) A')
    (hbody : ∀ (s : Shared) (H : Hp), Room k (A'.deeper (envOfC (X.env.qual ++ "<lambda>") scope s.heap.objs.size f (.ref c'))) → PE (lamX X N scope f c' A' s H) body tb)
    (ht : ∀ (Hi : Hp) (z : V × α), z ∈ zs → Same H Hi → tb (L2.start N [z.1]) Hi fun v H' => Same Hi H' ∧ Dp X.K H' v (key z)) :
    TurnG X A' (.ref f) pins0 H σ zs key := by
  intro pins2 s2 Hi u z hsub hz I2 kp ru
  have of1 := (I2.pin _ (List.mem_append_right _ (hsub _ hpin))).1
  obtain ⟨⟨oc, vs, t, hoc, hdc, hvc⟩, _, _⟩ := I2.hok c' _ (kp _ _ hco)
  have e0 : Env0 X.prog X.w X.K X.mg X.base A' X.stack s2 Hi := ⟨hA, I2.env0.mod, I2.env0.bs, I2.env0.bsz, I2.env0.funs, I2.env0.frf, I2.env0.hok, I2.env0.bare⟩
  have rv : Vals [z.1] [u] := .cons ru .nil
  have rc : codeAny (model X.prog X.w) A' (.call (.ref f) ⟨[u], []⟩) (CR CX0 X.stack X.prog X.w Hi s2 (fun v H' => Same Hi H' ∧ Dp X.K H' v (key z)) E0) s2 := by
    refine PySem.W.kla_callFunE hr.depth of1 rfl S.co S.gen rfl ⟨c', oc, vs, t, rfl, hoc, hdc, hvc⟩ ?_
    rw [hbind]
    have hkind : ∀ y ∈ [a].zip [u], scope.names.lookup y.1 = some .local ∨ (scope.names.lookup y.1 = some .cell ∧ ((cellsFrom (s2.heap.objs.size + 1) scope.names []).lookup y.1).isSome = true) := fun ⟨n, v⟩ hy => by
      rcases S.par n (List.of_mem_zip hy).1 with q | q
      · exact .inl q
      · exact .inr ⟨q, PySem.W.cellsFrom_some _ _ _ (.inl q)⟩
    subst hcl
    refine wpAny_pure (wpAny_newFunctionEnv_cells S.kind hkind fun env he s1 x => ?_)
    subst he
    refine ⟨I2.nolimit.keeps x.toInCall.keep, ?_⟩
    have J : Inv (lamX X N scope f c' A' s2 Hi) [] (L2.start N [z.1]) Hi s1 := inv_start S hh e0 rfl rv x
    refine PySem.W.kla_codeExpr (wpAny_mono ((hbody s2 Hi (hr.deeper _)).run [] s1 _ Hi _ J (ht Hi z hz kp)) (fun v s' hq => ?_) fun e s' hq => hq)
    obtain ⟨w', H', J', rv, q⟩ := hq
    exact ⟨w', H', J'.os, J'.bare, J'.base, J'.hok, rv, q⟩
  refine wpAny_call (codeAny_mono rc fun r s' hq => ?_)
  cases r with
  | error e => exact hq
  | ok fl =>
    cases fl with
    | ret u => exact I2.after hq
    | next => exact False.elim hq
    | brk => exact False.elim hq
    | cont => exact False.elim hq
end
/-- a new address, or a table's -/
def NewN (H : Hp) (a : Addr) : Prop := ∀ o, H a = some o → ∃ ps, o = .tbl ps
def tSortLam {α : Type} (K : PySem.W.Frag) (T : List (Addr × Str)) (N : List Str) (te : TA) (tb : TE) : TE := fun σ H Q => te σ H fun vs H1 => ∃ (l : Addr) (zs : List (V × α)) (key : V × α → PyData), vs = [.ref l] ∧ SqL K H1 l (zs.map Prod.fst) ∧ Tabs T H1 ∧ SortOk key zs
  ∧ (∀ (Hi : Hp) (z : V × α), z ∈ zs → ExtN H1 Hi → tb (L2.start N [z.1]) Hi fun v H' => Same Hi H' ∧ Dp K H' v (key z))
  ∧ ∀ H' a, ExtN H1 H' → Tabs T H' → NewN H1 a → H' a = some (.lst ((sortG key zs).map Prod.fst)) → Q (.ref a) H'
theorem extN_sqL {K : PySem.W.Frag} {H H' : Hp} (e : ExtN H H') {l : Addr} {xs : List V} (h : SqL K H l xs) : SqL K H' l xs := by
  rcases h with (h | ⟨o, h⟩) | h
  · exact .inl (.inl (e _ _ h fun _ z => by cases z))
  · exact .inl (.inr ⟨o, e _ _ h fun _ z => by cases z⟩)
  · exact .inr h
theorem pe_sortLam {X : Cx} {α : Type} {T : List (Addr × Str)} {N : List Str} {a : Str} {P c : Addr} {k : Nat} {params : Arguments} {body : Expr} {scope : Scope} {e : Expr} {te : TA} {tb : TE} {p lpos pos kpos : Pos}
    (hc : X.calm = true) (hg : Gl X "sorted") (hm : X.mg "sorted" = none) (ha : PA X [e] te) (TB : TabB X.base X.mg c P) (hcode : X.env.code = .ref c) (hmT : (P, X.env.qual ++ "<lambda>") ∈ T) (hu : ∀ p ∈ T, p.1 = P → p.2 = X.env.qual ++ "<lambda>")
    (S : FnScope N [a] scope) (hr : Room (k + 3) X.A) (hdef : defaultsOf params X.env = ([], [])) (hclo : ∀ cells, cloFrom cells scope.names [] = [])
    (hbind : ∀ (q : Str) (cl : List (Str × Addr)) (pm cv ctv : Value) (u : Value), bindArgs (PySem.W.kla_fn "<lambda>" q params body scope cl pm cv ctv) ⟨[u], []⟩ = pure [(a, u)])
    (hbody : ∀ (A : Around) (s : Shared) (H : Hp) (f c' : Addr), Room k (A.deeper (envOfC (X.env.qual ++ "<lambda>") scope s.heap.objs.size f (.ref c'))) → PE (lamX X N scope f c' A s H) body tb)
    (he : backTo pos (starEach [e] X.env) = (false, eval e X.env) :: backTo pos (starEach [] X.env) := by rfl) (hpl : (backTo pos (starEach [e] X.env)).any (·.1) = false := by rfl) :
    PE X (.Call (.Name "sorted" p) [e] [⟨some "key", .Lambda params body scope lpos, kpos⟩] pos) (tSortLam (α := α) X.K T N te tb) := by
  refine ⟨fun pins s σ H Q I h => ?_⟩
  refine wpAny_Call_Name_kw (ld_blt I hg hm (show bootBuiltins (Str.ofString "sorted") = some (.builtin "sorted") by decide +kernel) ?_ (by decide) (by decide))
  refine PyProof.Rows.callWith_kw (thn (ha.run pos pins s σ H _ I h) fun us s1 ⟨vs, H1, I1, r1, q1⟩ => ?_) he hpl (by rfl) (by rfl)
  obtain ⟨l, zs, key, rfl, hl, hT, ko, ht, hq⟩ := q1
  obtain rfl := Vals.ref1 r1
  show wpAny _ _ (evalAll ((do let v ← eval (.Lambda params body scope lpos) X.env; standAt pos; pure v) :: [])) _ _ s1
  refine wpAny_evalAll_cons (wpAny_bind (lam_make2 I1 TB hcode hmT hu hT hdef (fun y hy e => absurd e (S.nofree y hy)) fun f c' pm ctv H2 s2 I2 eN T2 hf hfn hfr hco => wpAny_bind (wpAny_standAt (wpAny_pure (wpAny_evalAll_nil ?_)))))
  show wpAny _ _ (call (.builtin "sorted") [.ref l] [(Str.ofString "key", .ref f)]) _ _ s2
  rw [hclo] at hf
  have I3 := lam_pin I2 hf rfl hfn hfr
  refine wpAny_mono (key_sortedG (Q := Q) I3 (extN_sqL eN hl) (by have := hr.un; omega) ko (lam_turn S (hbind _ _ _ _ _) List.mem_cons_self rfl hco I.ok.frames (I.ok.hd hc) hr.in1.in1 (fun s H => hbody _ s H f c') fun Hi z hz sm => ht Hi z hz (ExtN.trans eN (ExtN.of sm))) fun H' a' kp na ha => hq H' a' (ExtN.trans eN (ExtN.of kp)) (T2.ext kp) ?_ ha) (fun v s' hv => ?_) fun _ _ z => z
  · intro o q
    apply Classical.byContradiction
    intro n
    rw [eN a' o q fun ps e => n ⟨ps, e⟩] at na
    cases na
  · obtain ⟨v', H', I', rest⟩ := hv
    exact ⟨v', H', drop_pin I', rest⟩
end FL
namespace FL
open PySem PySem.Spec PyProof.Rows L2 LamX
/-- all but p and the tables of code objects stays -/
def ByX (p : Addr) (H H' : Hp) : Prop := ∀ c o, H c = some o → c ≠ p → (∀ ps, o ≠ .tbl ps) → H' c = some o
theorem ByX.refl (p : Addr) (H : Hp) : ByX p H H := fun _ _ e _ _ => e
theorem ByX.trans {p : Addr} {H H1 H2 : Hp} (a : ByX p H H1) (b : ByX p H1 H2) : ByX p H H2 := fun c o e n t => b c o (a c o e n t) n t
theorem ByX.but {p : Addr} {H H1 : Hp} (a : But p H H1) : ByX p H H1 := fun c o e n _ => a c o e n
theorem ByX.ext {p : Addr} {H H1 : Hp} (a : ExtN H H1) : ByX p H H1 := fun c o e _ t => a c o e t
theorem ByX.same {p : Addr} {H H1 : Hp} (a : Same H H1) : ByX p H H1 := fun c o e _ _ => a c o e
theorem not_tbl_l {xs : List V} : ∀ ps, (HO.lst xs) ≠ .tbl ps := fun _ z => by cases z
theorem not_tbl_t {xs : List V} : ∀ ps, (HO.tup xs) ≠ .tbl ps := fun _ z => by cases z
theorem pot_extN {H H' : Hp} {p : Addr} (h : PotAt H p) (s : ExtN H H') : PotAt H' p := by
  obtain ⟨a, b, e, r⟩ := h
  exact ⟨a, b, s _ _ e not_tbl_l, r⟩
theorem tabs_butX {T : List (Addr × Str)} {H H' : Hp} {p : Addr} (t : Tabs T H) (hp : PotAt H p) (b : But p H H') : Tabs T H' := fun q hq => by
  obtain ⟨_, _, hpe, _⟩ := hp
  obtain ⟨ps, h1, h2, h3⟩ := t q hq
  have ne : ∀ {c : Addr} {o : HO}, H c = some o → (∀ xs, o ≠ .lst xs) → c ≠ p := fun e n z => by
    rw [z, hpe] at e
    exact n _ (Option.some.inj e).symm
  refine ⟨ps, b _ _ h1 (ne h1 fun xs z => by cases z), h2, fun pos cv hc => ?_⟩
  obtain ⟨c, e1, e2⟩ := h3 pos cv hc
  exact ⟨c, e1, b _ _ e2 (ne e2 fun xs z => by unfold CodeO at z; cases z)⟩
theorem rules_byX {p : Addr} {H H' : Hp} {xs : List V} {rs : List Rule} (hp : PotAt H p) (b : ByX p H H') (h : RulesAt H xs rs) : RulesAt H' xs rs := RulesAt.imp h fun t a e => b t _ e (fun q => by
  obtain ⟨_, _, hpe, _⟩ := hp
  rw [q, hpe] at e
  cases e) not_tbl_t
theorem op_isnotB {X : Cx} : OpR X (compareOp .IsNot) (fun x y H Q => ∃ a b, x = .bl a ∧ y = .bl b ∧ Q (.bl (!decide (a = b))) H) := by
  intro pins s σ H x y v u Q I rx ry h
  obtain ⟨a, b, rfl, rfl, q⟩ := h
  cases rx
  cases ry
  show wpAny _ _ ((isSame (Value.bool a) (Value.bool b)) >>= fun z => pure (Value.bool (!z))) _ _ s
  refine wpAny_bind (wpAny_isSame_plain rfl (wpAny_pure (fin_bl I q ?_)))
  cases a <;> cases b <;> rfl
end FL
namespace K23
open PySem PySem.Spec PyProof.Rows L2 FL
/-! ### the table of several relays, one after another -/
def TabS (z : Str) (rss : List (List Rule)) (cs : List Rule) : Prop := ∃ us, UnS z rss us ∧ cs = cellsL z rss us
theorem TabS.one {z : Str} {rss : List (List Rule)} {cs ds : List Rule} (hov : OvS z rss) (h1 : TabS z rss cs) (h2 : TabS z rss ds) : cs = ds := by
  obtain ⟨us, h1, rfl⟩ := h1
  obtain ⟨vs, h2, rfl⟩ := h2
  exact cellsS_same hov h1 h2
theorem TabS.congr {z : Str} {rss rss' : List (List Rule)} {cs : List Rule} (h1 : OvS z rss) (h2 : OvS z rss') (a : AlS z rss rss') (h : TabS z rss cs) : TabS z rss' cs := by
  obtain ⟨us, hu, rfl⟩ := h
  exact ⟨us, uns_congr h1 h2 a hu, cells_congr h1 a hu fun u => Iff.rfl⟩
theorem TabS.alike {z : Str} {rss : List (List Rule)} {cs : List Rule} (h : TabS z rss cs) : AlS z rss [chg cs] := by
  obtain ⟨us, hu, rfl⟩ := h
  exact chg_alike hu
theorem thr_app (a b : List (List Rule)) (y : Str) : thr (a ++ b) y = thr b (thr a y) := List.foldl_append
theorem thr_over {z : Str} {n : Nat} : ∀ {rss : List (List Rule)} {y : Str}, (∀ rs ∈ rss, ∀ r ∈ rs, RuleOk z n r) → Over z y → Over z (thr rss y)
  | [], _, _, o => o
  | rs :: rss, y, h, o => thr_over (rss := rss) (y := turn rs y) (fun rs' h' => h rs' (List.mem_cons_of_mem _ h')) (turn_note (h rs List.mem_cons_self) o).1
theorem AlS.app {z : Str} {n : Nat} {a a' b : List (List Rule)} (h : AlS z a a') : AlS z (a ++ b) (a' ++ b) := fun y o => by rw [thr_app, thr_app, h y o]
theorem AlS.behind {z : Str} {n : Nat} {a b b' : List (List Rule)} (ok : ∀ rs ∈ a, ∀ r ∈ rs, RuleOk z n r) (h : AlS z b b') : AlS z (a ++ b) (a ++ b') := fun y o => by rw [thr_app, thr_app, h _ (thr_over ok o)]
theorem tabS_mem {z : Str} {rss : List (List Rule)} {n : Nat} {cs : List Rule} (ok : ∀ rs ∈ rss, ∀ r ∈ rs, RuleOk z n r) (h : TabS z rss cs) {c : Rule} (hc : c ∈ cs) : Over z c.old ∧ Over z c.new ∧ c.new = thr rss c.old := by
  obtain ⟨us, hu, rfl⟩ := h
  obtain ⟨l, hl, rfl⟩ := List.mem_map.mp hc
  have o := key_over (fun rs h r hr => (ok rs h r hr).o1) hu (mem_ordL.mp hl)
  exact ⟨o, thr_over ok o, rfl⟩
theorem ov_of {z : Str} {rss : List (List Rule)} {n : Nat} (ok : ∀ rs ∈ rss, ∀ r ∈ rs, RuleOk z n r) : OvS z rss := fun rs h r hr => (ok rs h r hr).o1
theorem dueE_none {cs : List Rule} : dueE cs = none ↔ cs.length ≤ 400 ∧ bigB (chg cs) = false := by
  unfold dueE
  constructor
  · intro h
    by_cases h1 : 400 < cs.length
    · rw [if_pos h1] at h
      cases h
    · rw [if_neg h1] at h
      cases e : bigB (chg cs) with
      | false => exact ⟨by omega, rfl⟩
      | true =>
        rw [e] at h
        cases h
  · rintro ⟨h1, h2⟩
    rw [if_neg (by omega), h2]
    rfl
/-- a product's rules may be another relay's -/
theorem chg_rok {z : Str} {rss : List (List Rule)} {n : Nat} {cs : List Rule} (ok : ∀ rs ∈ rss, ∀ r ∈ rs, RuleOk z n r) (h : TabS z rss cs) (e : dueE cs = none) : ROk z (chg cs) := by
  obtain ⟨h1, h2⟩ := dueE_none.mp e
  refine ⟨Nat.le_trans (List.length_filter_le _ _) h1, fun r hr => ?_⟩
  obtain ⟨q1, q2, _⟩ := tabS_mem ok h (chg_mem.mp hr).1
  obtain ⟨l1, l2⟩ := bigB_no.mp h2 r hr
  exact ⟨q1, l1, q2, l2⟩
theorem tabS_nil {z : Str} {cs : List Rule} (az : (ls z).Pairwise (· < ·)) (h : TabS z [] cs) : chg cs = [] ∧ dueE cs = none := by
  have key : chg cs = [] := by
    obtain ⟨us, hu, rfl⟩ := h
    refine List.filter_eq_nil_iff.mpr fun c hc => ?_
    obtain ⟨l, _, rfl⟩ := List.mem_map.mp hc
    have e : decide (V.str l = V.str (thr [] l)) = true := decide_eq_true rfl
    show ¬ (!decide (V.str l = V.str (thr [] l))) = true
    rw [e]
    decide
  refine ⟨key, dueE_none.mpr ⟨?_, by rw [key]; rfl⟩⟩
  obtain ⟨us, hu, rfl⟩ := h
  have e : us = [] := List.eq_nil_iff_forall_not_mem.mpr fun u hm => (hu.mem u).mp hm fun s _ => rfl
  rw [cellsL_len az (fun rs h => absurd h List.not_mem_nil) hu, e]
  show 0 * z.length + 1 ≤ 400
  omega
theorem un2_len {z : Str} {r1 r2 : List Rule} {us : List Str} (ok1 : ROk z r1) (ok2 : ROk z r2) (hu : UnS z [r1, r2] us) {u : Str} (h : u ∈ us) : u.length ≤ 100 := by
  have hn := (hu.mem u).mp h
  have ho := uns_over (ovs_two ok1 ok2) hn
  rw [str_len]
  rcases cell_of (z := ls z) (F := tL r1) _ (ls u) rfl ho with q | ⟨l, e, eq, ev, hc⟩
  · exact Nat.le_trans (asked_max (M := 40) (fun r hr => (ok1.ok r hr).o2) q) (by decide)
  · have he : ∀ c ∈ e, c ∈ ls z := fun c hc => ho c (by show c ∈ ls u; rw [eq]; exact List.mem_append_right _ hc)
    rw [eq, evn2 ev he] at hn
    have q1 := asked_max (M := 40) (fun r hr => (ok2.ok r hr).o2) hn
    have q2 := cell_max (M := 40) (fun r hr => (ok1.ok r hr).o2) hc
    show (ls u).length ≤ 100
    rw [eq, List.length_append]
    rw [List.length_append] at q1
    omega
theorem cell2_len {z : Str} {r1 r2 : List Rule} {us : List Str} (ok1 : ROk z r1) (ok2 : ROk z r2) (hu : UnS z [r1, r2] us) {c : Rule} (hc : c ∈ cellsL z [r1, r2] us) : c.old.length ≤ 1000 ∧ c.new.length ≤ 1000 := by
  obtain ⟨l, hl, rfl⟩ := List.mem_map.mp hc
  have o := key_over (ovs_two ok1 ok2) hu (mem_ordL.mp hl)
  have len : l.length ≤ 101 := by
    rcases mem_keys2.mp (mem_ordL.mp hl) with q | ⟨u, hm, c, _, q⟩ | q
    · rw [q]; decide +kernel
    · rw [q, len_app, show (sg c).length = 1 from rfl]
      have := un2_len ok1 ok2 hu hm
      omega
    · have := un2_len ok1 ok2 hu q
      omega
  have h1 := turn_note (b := 40) ok1.ok o
  have h2 := turn_note (b := 40) ok2.ok h1.1
  refine ⟨by show l.length ≤ 1000; omega, ?_⟩
  show (turn r2 (turn r1 l)).length ≤ 1000
  omega
theorem make_at {C : Addr} {H : Hp} {W : Addr → Hp → Prop} {z : Str} {v : V} {rs : List Rule} (hz : Abc z) (ra : RuArg H v rs) (ok : ∀ r ∈ rs, RuleOk z 40 r) (l : rs.length ≤ 400) (k : ∀ (x : Addr) (H' : Hp), H x = none → RelayAt C H' x z rs → Same H H' → W x H') :
    ∀ x dx, H x = none → H dx = none → dx ≠ x → spInit C [.ref x, .str z, v] (upd (upd H dx (.own x)) x (.ins C dx [])) (fun v H3 => v = .non ∧ W x H3) E0 := fun x dx h1 h2 h3 =>
  make_read (Q := fun u H' => ∃ y, u = .ref y ∧ W y H') hz ra ok l (fun y H' n r s => ⟨y, rfl, k y H' n r s⟩) x dx h1 h2 h3 |> fun q => by
    obtain ⟨p, dy, z', u, rs', e1, e2, e3, e4, e5, e6, k2⟩ := q
    refine ⟨p, dy, z', u, rs', e1, e2, e3, e4, e5, e6, fun H' ra r n b => ?_⟩
    obtain ⟨e, y, ey, w⟩ := k2 H' ra r n b
    cases ey
    exact ⟨e, w⟩
/-! ### a * b that may raise -/
structure MulT (K : PySem.W.Frag) (C f : Addr) (fd : FuncData) : Prop where
  cl : Cls K C
  at_ : PySem.W.findIn K (.ref C) (PySem.dunder Operator.Mult.info.2) = some (some (.ref f))
  fn : PySem.W.isFn K (.ref f) = true
  sf : PySem.W.selfFirst K C = true
  bd : Binds K fd ["self", "other"] []
def rMulX (C : Addr) (sp : Sp) (E : XK) : R2 := fun x y H Q => ∃ a b dx fs dy gs, x = .ref a ∧ y = .ref b ∧ H a = some (.ins C dx fs) ∧ H b = some (.ins C dy gs) ∧ sp [x, y] H (fun v H' => ∃ r, v = .ref r ∧ Q (.ref r) H') E
section
variable {X : Cx} {C f : Addr} {fd : FuncData} {sp : Sp} {k : Nat} {E : XK}
theorem op_mulX (T : MulT X.K C f fd) (Fk : FnOk X.prog X.w X.K X.mg X.base (L2.CX X.prog X.w) k f fd ["self", "other"] sp) (hr : Room k X.A) (hx : Passes (L2.CX X.prog X.w) X E) : OpR X (binaryOp .Mult) (rMulX C sp E) := by
  intro pins s σ H x y v u Q I rx ry h
  obtain ⟨a, b, dx, fs, dy, gs, rfl, rfl, ha, hb, q⟩ := h
  obtain rfl : v = Value.ref a := rx
  obtain rfl : u = Value.ref b := ry
  obtain ⟨mA, J, _⟩ := ins_get I.hok ha
  obtain ⟨od, J, _⟩ := J.look
  obtain ⟨mB, J2, _⟩ := ins_get I.hok hb
  obtain ⟨od2, J2, _⟩ := J2.look
  obtain ⟨m, hF⟩ := I.fr
  refine PySem.W.binop_K hF I.ok.mod.kin J J2.type T.sf T.at_ T.fn ?_
  have rr : Vals [V.ref a, V.ref b] [Value.ref a, Value.ref b] := .cons rfl (.cons rfl .nil)
  refine wpAny_mono (wpAny_call (run_fnR (Fk.raw T.bd .nil) hr hx I rr q)) ?_ fun _ _ e => e
  rintro w s2 ⟨z, H2, I2, rz, r, rfl, qb⟩
  obtain rfl : w = Value.ref r := rz
  exact ⟨.ref r, H2, I2, rfl, qb⟩
end
abbrev sMul : Stmt := inClass (topS 50) 5
abbrev sPower : Stmt := inClass (topS 50) 6
abbrev sIsInt : Stmt := topS 13
abbrev sIsCount : Stmt := topS 14
abbrev sCheckCount : Stmt := topS 26
def spMulX (C CT : Addr) : Sp := fun vs H Q E => ∃ (p q : Addr) (z : Str) (r1 r2 cs : List Rule), vs = [.ref p, .ref q] ∧ RelayAt C H p z r1 ∧ RelayAt C H q z r2 ∧ Abc z ∧ ROk z r1 ∧ ROk z r2 ∧ TabS z [r1, r2] cs ∧
  (∀ e, dueE cs = some e → ∀ H' d, Same H H' → H' d = none → E (.ref CT) (some d) (upd H' d (.xd (tmF e)))) ∧ (dueE cs = none → ∀ H' x, Same H H' → H x = none → RelayAt C H' x z (chg cs) → Q (.ref x) H')
def spInt1 : Sp := fun vs H Q _ => ∃ (i : Int), vs = [.int i] ∧ Q (.bl true) H
def spCount : Sp := fun vs H Q _ => ∃ (i : Nat), vs = [.int i] ∧ Q (.bl true) H
def spChkCount : Sp := fun vs H Q _ => ∃ (i : Nat), vs = [.int i] ∧ Q .non H
def spPowX (C CT : Addr) : Sp := fun vs H Q E => ∃ (p : Addr) (z : Str) (rs : List Rule) (n : Nat) (tab : Nat → List Rule), vs = [.ref p, .int n] ∧ n ≤ 60 ∧ RelayAt C H p z rs ∧ Abc z ∧ ROk z rs ∧ (∀ i, i ≤ n → TabS z (List.replicate i rs) (tab i)) ∧
  (∀ m e, m ≤ n → dueE (tab m) = some e → (∀ i, i < m → dueE (tab i) = none) → ∀ H' d, Same H H' → H' d = none → E (.ref CT) (some d) (upd H' d (.xd (tmF e)))) ∧
  ((∀ i, i ≤ n → dueE (tab i) = none) → ∀ H' x, Same H H' → H x = none → RelayAt C H' x z (chg (tab n)) → Q (.ref x) H')
section
variable {P : Program} {w : World} {K : PySem.W.Frag} {mg : Str → Option Value} {base : Heap}
theorem scMul : FnScope ["self", "other", "cells"] ["self", "other"] (defScope sMul) := ⟨rfl, rfl, rfl, by decide +kernel, rfl, by decide +kernel, by decide +kernel⟩
theorem ok_mulX {f CT : Addr} {fd : FuncData} (R : RelF P w K mg base) (F : Fun K "__mul__" "Relay.__mul__" sMul f fd) (cS : Ca P w K mg base "check_same_signs" 1 ["one", "other"] spSame)
    (cP : CaX P w K mg base "product_table" 7 ["signs", "one", "other"] (spProdX CT)) (cC : CaX P w K mg base "changing_cells" 3 ["cells"] (spChgX K CT)) :
    FnOk P w K mg base (L2.CX P w) 8 f fd ["self", "other"] (spMulX R.C CT) := by
  refine F.okX scMul (fun vs H Q E h => ?_) (fun cdv A outer s H vs Q E hr h => ?_)
  · obtain ⟨_, _, _, _, _, _, rfl, _⟩ := h
    rfl
  · obtain ⟨p, q, z, r1, r2, cs, rfl, ⟨dx, ra, ia, xs, h1, h2, h3, h4⟩, ⟨dy, rb, ib, ys, g1, g2, g3, g4⟩, az, ok1, ok2, ⟨us, hus, rfl⟩, kE, k⟩ := h
    have nd := scMul.nd
    have ps : Passes (L2.CX P w) (cxOf (L2.CX P w) P w K mg base ["self", "other", "cells"] "Relay.__mul__" (defScope sMul) f cdv A outer s H E) E := passes_call (W := fun cls d _ H => E cls d H) (takes_of rfl rfl rfl rfl) fun _ _ _ _ h => h
    refine ⟨_, pss_cons (ps_expr (pe_ca cS (hr.mono (by decide)) (by rfl) (pa_cons (pe_fld (pv 0) rfl) (pa_cons (pe_fld (pv 1) rfl) pa_nil))))
      (pss_cons (ps_set (i := 2) nd rfl (.inl rfl) (pe_caX cP hr (by rfl) ps (pa_cons (pe_fld (pv 0) rfl) (pa_cons (pe_fld (pv 0) rfl) (pa_cons (pe_fld (pv 1) rfl) pa_nil)))))
      (pss_one (ps_ret (pe_make R.mkc R.oi (hr.mono (by decide)) (by rfl) R.T.mgC R.bi .nil pass0 (pa_cons (pe_fld (pv 0) rfl) (pa_cons (pe_caX cC (hr.mono (by decide)) (by rfl) ps (pa_cons (pv 2) pa_nil)) pa_nil)))))), ?_⟩
    have T := R.T
    have lc := cellsL_len az.up (ovs_two ok1 ok2) hus
    refine ⟨_, rfl, p, R.C, dx, _, _, rfl, h1, T.cl, T.nS, flds_signs z ra ia, _, rfl, q, R.C, dy, _, _, rfl, g1, T.cl, T.nS, flds_signs z rb ib, z, rfl, ?_⟩
    refine ⟨_, rfl, p, R.C, dx, _, _, rfl, h1, T.cl, T.nS, flds_signs z ra ia, _, rfl, p, R.C, dx, _, _, rfl, h1, T.cl, T.nI, flds_index z ra ia, _, rfl, q, R.C, dy, _, _, rfl, g1, T.cl, T.nI, flds_index z rb ib, z, ia, ib, r1, r2, us, rfl, h4, g4, az, ok1, ok2, hus, fun gt H' d s' hd => ?_, fun few H2 D ws vs s2 nD gD hvs rD => ?_⟩
    · refine kE (Str.ofString "cells", 400) ?_ H' d s' hd
      unfold dueE
      rw [if_pos (by omega)]
    · rw [cellsS_same (ovs_two ok1 ok2) hvs hus] at rD
      have clen := fun c => cell2_len (c := c) ok1 ok2 hus
      have hrk := chg_rok (n := 40) (rss := [r1, r2]) (fun rs h' => by
        rcases List.mem_cons.mp h' with rfl | h'
        · exact ok1.ok
        · rw [List.mem_singleton.mp h']
          exact ok2.ok) ⟨us, hus, rfl⟩
      generalize cellsL z [r1, r2] us = cs at rD kE k lc clen hrk
      refine ⟨_, rfl, p, R.C, dx, _, _, rfl, s2 _ _ h1, T.cl, T.nS, flds_signs z ra ia, _, rfl, D, ws, cs, rfl, SqL.of gD, rD, by omega, clen, fun big H' d s' hd => ?_, fun small D2 ws2 H3 s3 nD2 gD2 rD2 => ?_⟩
      · refine kE (Str.ofString "signs", 40) ?_ H' d (s2.trans s') hd
        unfold dueE
        rw [if_neg (by omega), big]
        rfl
      · have e : dueE cs = none := dueE_none.mpr ⟨by omega, small⟩
        exact make_read az ⟨D2, ws2, false, rfl, gD2, rD2⟩ (hrk e).ok (hrk e).few fun x H4 nx rel s4 => k e H4 x ((s2.trans s3).trans s4) ((s2.trans s3).none nx) rel
theorem scIsInt : FnScope ["value"] ["value"] (defScope sIsInt) := ⟨rfl, rfl, rfl, by decide +kernel, rfl, by decide +kernel, by decide +kernel⟩
theorem ok_isint {f : Addr} {fd : FuncData} (F : Fun K "is_integer" "is_integer" sIsInt f fd) (mI : mg "isinstance" = none) (mN : mg "int" = none) (mB : mg "bool" = none) :
    FnOk P w K mg base CX0 1 f fd ["value"] spInt1 := by
  refine F.ok scIsInt (fun vs H Q E h => ?_) (fun cdv A outer s H vs Q E hr h => ?_)
  · obtain ⟨_, rfl, _⟩ := h
    rfl
  · obtain ⟨i, rfl, k⟩ := h
    refine ⟨_, pss_one (ps_ret (pe_and (pe_callB call_isA (by rfl) mI (by decide +kernel)
        (pa_cons (pv 0) (pa_cons (pe_bltn (v := .ty "int") (by rfl) mN (by decide +kernel) rfl) pa_nil)))
      (pe_one (pe_not (pe_callB call_isA (by rfl) mI (by decide +kernel)
        (pa_cons (pv 0) (pa_cons (pe_bltn (v := .ty "bool") (by rfl) mB (by decide +kernel) rfl) pa_nil))))))), ?_⟩
    exact ⟨_, rfl, _, "int", "int", rfl, .int i, by decide, _, rfl, _, rfl, _, "int", "bool", rfl, .int i, by decide, _, rfl, k⟩
theorem scIsCount : FnScope ["value"] ["value"] (defScope sIsCount) := ⟨rfl, rfl, rfl, by decide +kernel, rfl, by decide +kernel, by decide +kernel⟩
theorem ok_iscount {f : Addr} {fd : FuncData} (F : Fun K "is_count" "is_count" sIsCount f fd) (cI : Ca P w K mg base "is_integer" 1 ["value"] spInt1) : FnOk P w K mg base CX0 2 f fd ["value"] spCount := by
  refine F.ok scIsCount (fun vs H Q E h => ?_) (fun cdv A outer s H vs Q E hr h => ?_)
  · obtain ⟨_, rfl, _⟩ := h
    rfl
  · obtain ⟨i, rfl, k⟩ := h
    refine ⟨_, pss_one (ps_ret (pe_and (pe_ca cI hr (by rfl) (pa_cons (pv 0) pa_nil)) (pe_one (pe_cmpR op_ge (pv 0) pe_int (nomark _))))), ?_⟩
    refine ⟨_, rfl, _, rfl, _, rfl, _, rfl, _, _, rfl, rfl, ?_⟩
    show Q (.bl (decide _)) H
    rw [decide_eq_true (by omega)]
    exact k
theorem scCheckCount : FnScope ["value"] ["value"] (defScope sCheckCount) := ⟨rfl, rfl, rfl, by decide +kernel, rfl, by decide +kernel, by decide +kernel⟩
theorem ok_chkcount {f : Addr} {fd : FuncData} (F : Fun K "check_count" "check_count" sCheckCount f fd) (cI : Ca P w K mg base "is_count" 2 ["value"] spCount) : FnOk P w K mg base CX0 3 f fd ["value"] spChkCount := by
  refine F.ok scCheckCount (fun vs H Q E h => ?_) (fun cdv A outer s H vs Q E hr h => ?_)
  · obtain ⟨_, rfl, _⟩ := h
    rfl
  · obtain ⟨i, rfl, k⟩ := h
    refine ⟨_, pss_one (ps_if (pt_not (pt_val (pe_ca cI hr (by rfl) (pa_cons (pv 0) pa_nil)))) (pss_one ps_never) pss_nil), ?_⟩
    exact ⟨_, rfl, i, rfl, _, rfl, iteF k⟩
abbrev nPow : List Str := ["self", "times", "found", "_"]
theorem scPower : FnScope nPow ["self", "times"] (defScope sPower) := ⟨rfl, rfl, rfl, by decide +kernel, rfl, by decide +kernel, by decide +kernel⟩
theorem ok_powX {f fm CT : Addr} {fd dm : FuncData} (R : RelF P w K mg base) (F : Fun K "power" "Relay.power" sPower f fd) (T : ErT P w K mg base) (cC : Ca P w K mg base "check_count" 3 ["value"] spChkCount) (tM : MulT K R.C fm dm)
    (oM : FnOk P w K mg base (L2.CX P w) 8 fm dm ["self", "other"] (spMulX R.C CT)) (mG : mg "range" = none) {tk : Tok} (mT : mg "MOST_TIMES" = some (.int 60 tk)) :
    FnOk P w K mg base (L2.CX P w) 9 f fd ["self", "times"] (spPowX R.C CT) := by
  refine F.okX scPower (fun vs H Q E h => ?_) (fun cdv A outer s H vs Q E hr h => ?_)
  · obtain ⟨_, _, _, _, _, rfl, _⟩ := h
    rfl
  · obtain ⟨p, z, rs, n, tab, rfl, n60, hp, az, ok, htab, kE, k⟩ := h
    have nd := scPower.nd
    have ps : Passes (L2.CX P w) (cxOf (L2.CX P w) P w K mg base nPow "Relay.power" (defScope sPower) f cdv A outer s H E) E := passes_call (W := fun cls d _ H => E cls d H) (takes_of rfl rfl rfl rfl) fun _ _ _ _ h => h
    refine ⟨_, pss_cons (ps_expr (pe_ca cC (hr.mono (by decide)) (by rfl) (pa_cons (pv 1) pa_nil)))
      (pss_cons (ps_if (pt_cmpR op_gt (pv 1) (pe_glob (v := .int 60) rfl mT ⟨_, rfl⟩) (nomark _)) (pss_one ps_never) pss_nil)
      (pss_cons (ps_set (i := 2) nd rfl (.inl rfl) (pe_make R.mkc R.oi (hr.mono (by decide)) (by rfl) R.T.mgC R.bi .nil pass0 (pa_cons (pe_fld (pv 0) rfl) (pa_cons (pe_lst pa_nil) pa_nil))))
      (pss_cons (ps_for PassesOwn.leaving rfl (pi_range1 (by rfl) mG (pa_cons (pv 1) pa_nil)) (pg_name (i := 3) nd rfl (.inl rfl))
        (pss_one (ps_set (i := 2) nd rfl (.inl rfl) (pe_op (op_mulX tM oM hr ps) (pv 2) (pv 0)))))
      (pss_one (ps_ret (pv 2)))))), ?_⟩
    have hall : ∀ i, ∀ rs' ∈ List.replicate i rs, ∀ r ∈ rs', RuleOk z 40 r := fun i rs' h => by
      rw [(List.mem_replicate.mp h).2]
      exact ok.ok
    have t0 := tabS_nil az.up (htab 0 (Nat.zero_le _))
    have hp0 := hp
    obtain ⟨dx, ra, ia, xs, h1, h2, h3, h4⟩ := hp
    refine ⟨_, rfl, n, rfl, ?_⟩
    refine ⟨_, rfl, _, _, rfl, rfl, _, rfl, ite2 (fun q => absurd (of_decide_eq_true q) (by omega)) (fun _ => ?_)⟩
    refine ⟨_, rfl, p, R.C, dx, _, _, rfl, h1, R.T.cl, R.T.nS, flds_signs z ra ia, by decide, fun L hL => ?_⟩
    have s1 : Same H (upd H L (.lst [])) := (Same.refl H).upd hL
    have gL : upd H L (.lst []) L = some (.lst []) := upd_same
    generalize upd H L (.lst []) = H1 at s1 gL ⊢
    refine make_at (rs := []) az ⟨L, [], false, rfl, gL, .nil⟩ (fun r hr => nomatch hr) (Nat.zero_le _) fun x H2 nx rel s2 => ?_
    refine ⟨_, rfl, _, rfl, by omega, by omega, for_range (lo := 0) (n := (((n : Nat) : Int)).toNat) (fun i σ Hi => ∃ (x : Addr) (o3 : Option V), σ = [some (.ref p), some (.int n), some (.ref x), o3] ∧ Same H Hi ∧ H x = none ∧ RelayAt R.C Hi x z (chg (tab i)) ∧ ∀ j, j ≤ i → dueE (tab j) = none) ?_ ?_ ?_⟩
    · refine ⟨x, none, rfl, s1.trans s2, s1.none nx, ?_, fun j hj => ?_⟩
      · rw [t0.1]
        exact rel
      · obtain rfl : j = 0 := by omega
        exact t0.2
    · rintro i σ Hi hi0 ⟨x, o3, rfl, si, nxi, rx, due⟩
      have hi : i < n := by omega
      have ht : TabS z [chg (tab i), rs] (tab (i + 1)) := by
        have hq := htab (i + 1) (by omega)
        rw [List.replicate_succ'] at hq
        have ok2 : ∀ rs' ∈ [chg (tab i), rs], ∀ r ∈ rs', RuleOk z 40 r := fun rs' h' => by
          rcases List.mem_cons.mp h' with rfl | h'
          · exact (chg_rok (hall i) (htab i (by omega)) (due i (Nat.le_refl _))).ok
          · rw [List.mem_singleton.mp h']
            exact ok.ok
        refine TabS.congr (ov_of (n := 40) fun rs' h' => ?_) (ov_of ok2) (AlS.app (n := 40) (htab i (by omega)).alike) hq
        rcases List.mem_append.mp h' with h' | h'
        · exact hall i rs' h'
        · rw [List.mem_singleton.mp h']
          exact ok.ok
      obtain ⟨dx', ra', ia', xs', e1, _⟩ := rx
      have rx' : RelayAt R.C Hi x z (chg (tab i)) := ⟨dx', ra', ia', xs', e1, by assumption⟩
      refine ⟨_, rfl, ?_⟩
      refine ⟨_, rfl, x, p, dx', _, dx, _, rfl, rfl, e1, si _ _ h1, x, p, z, chg (tab i), rs, tab (i + 1), rfl, rx', hp0.same si, az, chg_rok (hall i) (htab i (by omega)) (due i (Nat.le_refl _)), ok, ht, fun e he H' d s' hd => ?_, fun he H' y s' ny ry => ?_⟩
      · exact kE (i + 1) e (by omega) he (fun j hj => due j (by omega)) H' d (si.trans s') hd
      · refine ⟨y, rfl, ?_⟩
        refine ⟨y, _, rfl, si.trans s', si.none ny, ry, fun j hj => ?_⟩
        by_cases hji : j ≤ i
        · exact due j hji
        · obtain rfl : j = i + 1 := by omega
          exact he
    · rintro σ Hi ⟨x, o3, rfl, si, nxi, rx, due⟩
      have en : (((n : Nat) : Int)).toNat = n := Int.toNat_natCast n
      rw [en] at rx due
      exact ⟨_, rfl, k due Hi x si nxi rx⟩
end
end K23
namespace K23
open PySem PySem.Spec PyProof.Rows L2 FL
/-! ### the rules that the law draws are few and short -/
def spDeals2 : Sp := fun vs H Q _ => ∃ (p : Addr) (z : Str) (lot most : Int), vs = [.ref p, .str z, .int lot, .int most] ∧ PotAt H p ∧ 0 < z.length ∧ z.length ≤ 1000 ∧
  0 ≤ lot ∧ lot ≤ 100 ∧ 0 ≤ most ∧ most ≤ 20 ∧
  ∀ (D : Addr) (xs : List V) (rs : List Rule) (H' : Hp), H D = none → H' D = some (.lst xs) → RulesAt H' xs rs → (rs.length : Int) ≤ lot →
    (∀ r ∈ rs, RuleOk z (most.toNat + 2) r ∧ r.old.length ≤ most.toNat) → PotAt H' p → But p H H' → Q (.ref D) H'
def most2 (z : Str) : Nat := if z.length < 4 then 2 else 1
structure Dl3 (z : Str) (rs : List Rule) : Prop where
  few : rs.length ≤ 3
  ok : ∀ r ∈ rs, RuleOk z 4 r
  short : ∀ r ∈ rs, r.old.length ≤ most2 z
theorem most2_le (z : Str) : most2 z ≤ 2 := by unfold most2; split <;> decide
theorem Dl3.rok {z : Str} {rs : List Rule} (h : Dl3 z rs) : ROk z rs := ⟨Nat.le_trans h.few (by decide), fun r hr => (h.ok r hr).mono (by decide)⟩
theorem flat_len {α β : Type} {f : α → List β} {m : Nat} : ∀ {l : List α}, (∀ a ∈ l, (f a).length ≤ m) → (l.flatMap f).length ≤ l.length * m
  | [], _ => Nat.zero_le _
  | a :: l, h => by
    rw [List.flatMap_cons, List.length_append, List.length_cons, Nat.succ_mul]
    have h1 := h a List.mem_cons_self
    have h2 := flat_len (l := l) fun b hb => h b (List.mem_cons_of_mem _ hb)
    omega
theorem un_countL {z : Str} {rs : List Rule} {us : List Str} {L : Nat} (hL : ∀ r ∈ rs, r.old.length ≤ L) (h : UnOk z rs us) : us.length ≤ 1 + rs.length * L := by
  have hn := nodup_sub h.nd (m := st [] :: rs.flatMap fun r => (List.range r.old.length).map fun i => st ((ls r.old).take (i + 1))) fun u hu => by
    obtain ⟨r, hr, hp⟩ : Asked rs u := Classical.byContradiction fun na => (h.mem u).mp hu (not_asked na)
    have hp' : ls u <+: ls r.old := hp
    by_cases e : ls u = []
    · rw [show u = st [] from ls_inj e]
      exact List.mem_cons_self
    · refine List.mem_cons_of_mem _ (List.mem_flatMap.mpr ⟨r, hr, List.mem_map.mpr ⟨(ls u).length - 1, ?_, ?_⟩⟩)
      · rw [List.mem_range, str_len]
        have h1 := hp'.length_le
        have h2 := List.length_pos_iff.mpr e
        show (ls u).length - 1 < (ls r.old).length
        omega
      · have h2 := List.length_pos_iff.mpr e
        rw [show (ls u).length - 1 + 1 = (ls u).length by omega, ← List.prefix_iff_eq_take.mp hp']
  refine Nat.le_trans hn ?_
  rw [List.length_cons]
  have := flat_len (f := fun r : Rule => (List.range r.old.length).map fun i => st ((ls r.old).take (i + 1))) (m := L) (l := rs) fun r hr => by
    rw [List.length_map, List.length_range]
    exact hL r hr
  omega
theorem fronts_count {z : Str} (az : (ls z).Pairwise (· < ·)) {rs : List Rule} {us : List Str} (hov : OvS z [rs]) (h : UnOk z rs us) : ((cellsL z [rs] us).filter (·.fr)).length + us.length ≤ us.length * z.length + 1 := by
  have hk := keys2_eq az hov h.uns
  have hs := nodup_sub h.nd (m := (ordL (keys2 z us)).filter fun l => decide (l ∈ us)) fun u hu => List.mem_filter.mpr ⟨mem_ordL.mpr (mem_keys2.mpr (.inr (.inr hu))), decide_eq_true hu⟩
  have e1 : ((cellsL z [rs] us).filter (·.fr)).length = ((ordL (keys2 z us)).filter fun l => decide (l ∉ us)).length := by
    unfold cellsL
    rw [List.filter_map, List.length_map]
    rfl
  have e2 : (ordL (keys2 z us)).length = us.length * z.length + 1 := by rw [ordL_len, hk]
  rw [e1]
  have e3 : ((ordL (keys2 z us)).filter fun l => decide (l ∉ us)).length + ((ordL (keys2 z us)).filter fun l => decide (l ∈ us)).length = (ordL (keys2 z us)).length := by
    generalize ordL (keys2 z us) = l
    induction l with
    | nil => rfl
    | cons a l ih =>
      rw [List.filter_cons, List.filter_cons, List.length_cons]
      by_cases ha : a ∈ us
      · rw [if_neg (by simpa using ha), if_pos (by simpa using ha), List.length_cons]
        omega
      · rw [if_pos (by simpa using ha), if_neg (by simpa using ha), List.length_cons]
        omega
  omega
theorem prod_count {z : Str} (az : (ls z).Pairwise (· < ·)) {r1 r2 : List Rule} {us us1 us2 : List Str} (ok1 : ROk z r1) (ok2 : ROk z r2) (hu : UnS z [r1, r2] us) (h1 : UnOk z r1 us1) (l1 : us1.length ≤ 410000) (h2 : UnOk z r2 us2) :
    us.length ≤ us1.length + ((cellsL z [r1] us1).filter (·.fr)).length * us2.length := by
  have t1 : TabIs z r1 (cellsL z [r1] us1) := ⟨us1, h1, l1, rfl⟩
  have hn := nodup_sub hu.nd (m := us1 ++ ((cellsL z [r1] us1).filter (·.fr)).flatMap fun c => us2.map fun v => st (ls c.old ++ (ls v).drop (ls c.new).length)) fun u hm => by
    have hne := (hu.mem u).mp hm
    have ho := uns_over (ovs_two ok1 ok2) hne
    rcases cell_of (z := ls z) (F := tL r1) _ (ls u) rfl ho with q | ⟨l, e, eq, ev, hc⟩
    · exact List.mem_append_left _ ((h1.mem u).mpr q)
    · have he : ∀ c ∈ e, c ∈ ls z := fun c hc => ho c (by show c ∈ ls u; rw [eq]; exact List.mem_append_right _ hc)
      obtain ⟨c, hcm, hco⟩ := List.mem_map.mp ((tab_mem t1 (st l)).mpr hc)
      obtain ⟨q1, _, q3⟩ := cells_kind t1 hcm
      have hl : ls c.old = l := by rw [hco]
      refine List.mem_append_right _ (List.mem_flatMap.mpr ⟨c, List.mem_filter.mpr ⟨hcm, q1.mpr (by rw [hl]; exact ev)⟩, List.mem_map.mpr ⟨st (tL r1 l ++ e), (h2.mem _).mpr ?_, ?_⟩⟩)
      · rw [eq, evn2 ev he] at hne
        exact hne
      · have hnew : ls c.new = tL r1 l := by rw [q3, FL.turn_list, hl]
        refine ls_inj ?_
        show ls c.old ++ (tL r1 l ++ e).drop (ls c.new).length = ls u
        rw [hnew, List.drop_left, hl, eq]
  refine Nat.le_trans hn ?_
  rw [List.length_append]
  have := flat_len (f := fun c : Rule => us2.map fun v => st (ls c.old ++ (ls v).drop (ls c.new).length)) (m := us2.length) (l := (cellsL z [r1] us1).filter (·.fr)) fun c _ => by rw [List.length_map]; exact Nat.le_refl _
  omega
theorem un2_lenM {z : Str} {r1 r2 : List Rule} {us : List Str} {M : Nat} (ok1 : ROk z r1) (ok2 : ROk z r2) (m1 : ∀ r ∈ r1, r.old.length ≤ M) (m2 : ∀ r ∈ r2, r.old.length ≤ M) (hu : UnS z [r1, r2] us) {u : Str} (h : u ∈ us) : u.length ≤ 2 * M + 1 := by
  have hn := (hu.mem u).mp h
  have ho := uns_over (ovs_two ok1 ok2) hn
  rw [str_len]
  rcases cell_of (z := ls z) (F := tL r1) _ (ls u) rfl ho with q | ⟨l, e, eq, ev, hc⟩
  · exact Nat.le_trans (asked_max (M := M) m1 q) (by omega)
  · have he : ∀ c ∈ e, c ∈ ls z := fun c hc => ho c (by show c ∈ ls u; rw [eq]; exact List.mem_append_right _ hc)
    rw [eq, evn2 ev he] at hn
    have q1 := asked_max (M := M) m2 hn
    have q2 := cell_max (M := M) m1 hc
    show (ls u).length ≤ 2 * M + 1
    rw [eq, List.length_append]
    rw [List.length_append] at q1
    omega
theorem once_ex : ∀ l : List Str, ∃ l' : List Str, l'.Nodup ∧ ∀ a, a ∈ l' ↔ a ∈ l
  | [] => ⟨[], List.nodup_nil, fun a => Iff.rfl⟩
  | b :: l => by
    obtain ⟨l', n, m⟩ := once_ex l
    by_cases h : b ∈ l'
    · exact ⟨l', n, fun a => by
        rw [List.mem_cons, ← m a]
        exact ⟨.inr, fun q => q.elim (fun e => by rw [e]; exact h) id⟩⟩
    · exact ⟨b :: l', List.nodup_cons.mpr ⟨h, n⟩, fun a => by rw [List.mem_cons, List.mem_cons, m a]⟩
/-- there are such tables -/
theorem unok_ex {z : Str} {rs : List Rule} (hov : ∀ r ∈ rs, Over z r.old) : ∃ us, UnOk z rs us := by
  classical
  obtain ⟨us, nd, hm⟩ := once_ex ((st [] :: rs.flatMap fun r => (List.range r.old.length).map fun i => st ((ls r.old).take (i + 1))).filter fun u => decide (¬ Evn (ls z) (tL rs) (ls u)))
  refine ⟨us, nd, fun u => ?_⟩
  · rw [hm, List.mem_filter, decide_eq_true_eq]
    refine ⟨fun q => q.2, fun q => ⟨?_, q⟩⟩
    obtain ⟨r, hr, hp⟩ : Asked rs u := Classical.byContradiction fun na => q (not_asked na)
    have hp' : ls u <+: ls r.old := hp
    by_cases e : ls u = []
    · rw [show u = st [] from ls_inj e]
      exact List.mem_cons_self
    · refine List.mem_cons_of_mem _ (List.mem_flatMap.mpr ⟨r, hr, List.mem_map.mpr ⟨(ls u).length - 1, ?_, ?_⟩⟩)
      · rw [List.mem_range, str_len]
        have h1 := hp'.length_le
        have h2 := List.length_pos_iff.mpr e
        show (ls u).length - 1 < (ls r.old).length
        omega
      · have h2 := List.length_pos_iff.mpr e
        rw [show (ls u).length - 1 + 1 = (ls u).length by omega, ← List.prefix_iff_eq_take.mp hp']
/-- a product of two of them is let -/
theorem two_let {z : Str} {r1 r2 cs : List Rule} (az : Abc z) (d1 : Dl3 z r1) (d2 : Dl3 z r2) (h : TabS z [r1, r2] cs) : dueE cs = none := by
  obtain ⟨us, hu, rfl⟩ := h
  obtain ⟨us1, h1⟩ := unok_ex d1.rok.over
  obtain ⟨us2, h2⟩ := unok_ex d2.rok.over
  have n1 := un_countL d1.short h1
  have n2 := un_countL d2.short h2
  have m0 := most2_le z
  have f1 : us1.length ≤ 1 + 3 * most2 z := Nat.le_trans n1 (Nat.add_le_add_left (Nat.mul_le_mul_right _ d1.few) _)
  have f2 : us2.length ≤ 1 + 3 * most2 z := Nat.le_trans n2 (Nat.add_le_add_left (Nat.mul_le_mul_right _ d2.few) _)
  have c1 := prod_count az.up d1.rok d2.rok hu h1 (by omega) h2
  have c2 := fronts_count az.up (fun rs h r hr => by rw [List.mem_singleton.mp h] at hr; exact d1.rok.over r hr) h1
  generalize ((cellsL z [r1] us1).filter (·.fr)).length = F at c1 c2
  have lens := fun c (hc : c ∈ cellsL z [r1, r2] us) => show c.old.length ≤ 40 ∧ c.new.length ≤ 40 by
    obtain ⟨l, hl, rfl⟩ := List.mem_map.mp hc
    have o := key_over (ovs_two d1.rok d2.rok) hu (mem_ordL.mp hl)
    have uM := fun u (hm : u ∈ us) => un2_lenM (M := 2) d1.rok d2.rok (fun r hr => Nat.le_trans (d1.short r hr) m0) (fun r hr => Nat.le_trans (d2.short r hr) m0) hu hm
    have len : l.length ≤ 6 := by
      rcases mem_keys2.mp (mem_ordL.mp hl) with q | ⟨u, hm, c, _, q⟩ | q
      · rw [q]; decide +kernel
      · rw [q, len_app, show (sg c).length = 1 from rfl]
        have := uM u hm
        omega
      · have := uM l q
        omega
    have q1 := turn_note (b := 4) d1.ok o
    have q2 := turn_note (b := 4) d2.ok q1.1
    refine ⟨by show l.length ≤ 40; omega, ?_⟩
    show (turn r2 (turn r1 l)).length ≤ 40
    omega
  refine dueE_none.mpr ⟨?_, bigB_no.mpr fun c hc => lens c (chg_mem.mp hc).1⟩
  rw [cellsL_len az.up (ovs_two d1.rok d2.rok) hu]
  have lo := az.lo
  have hi := az.hi
  unfold most2 at f1 f2
  have hz : z.length = 2 ∨ z.length = 3 ∨ z.length = 4 := by omega
  rcases hz with e | e | e <;> rw [e] at c2 f1 f2 ⊢
  · have f1 : us1.length ≤ 7 := f1
    have f2 : us2.length ≤ 7 := f2
    have : F * us2.length ≤ 8 * 7 := Nat.mul_le_mul (by omega) f2
    omega
  · have f1 : us1.length ≤ 7 := f1
    have f2 : us2.length ≤ 7 := f2
    have : F * us2.length ≤ 15 * 7 := Nat.mul_le_mul (by omega) f2
    omega
  · have f1 : us1.length ≤ 4 := f1
    have f2 : us2.length ≤ 4 := f2
    have : F * us2.length ≤ 13 * 4 := Nat.mul_le_mul (by omega) f2
    omega
section
variable {P : Program} {w : World} {K : PySem.W.Frag} {mg : Str → Option Value} {base : Heap}
theorem ok_deals2 {f g h e : Addr} {fd gd hd ed : FuncData} (F : Fun K "_law_deals" "_law_deals" sDeals f fd)
    (G : FnOk P w K mg base CX0 1 g gd ["_law_pot_here", "_law_much"] spDraw) (bG : Binds K gd ["_law_pot_here", "_law_much"] [])
    (kG : PySem.W.keepIn K (.ref g) = true) (mG : mg "_law_draw" = some (.ref g))
    (Hk : FnOk P w K mg base CX0 2 h hd ["_law_pot_here", "_law_some"] (spPick K)) (bH : Binds K hd ["_law_pot_here", "_law_some"] [])
    (kH : PySem.W.keepIn K (.ref h) = true) (mH : mg "_law_pick" = some (.ref h))
    (Ek : FnOk P w K mg base CX0 3 e ed ["_law_pot_here", "_law_abc_here", "_law_most"] spNote) (bE : Binds K ed ["_law_pot_here", "_law_abc_here", "_law_most"] [])
    (kE : PySem.W.keepIn K (.ref e) = true) (mE : mg "_law_note" = some (.ref e)) (mR : mg "range" = none) :
    FnOk P w K mg base CX0 4 f fd ["_law_pot_here", "_law_abc_here", "_law_lot", "_law_most"] spDeals2 := by
  refine F.ok scDeals (fun vs H Q E h => ?_) (fun cdv A outer s H vs Q E hr h => ?_)
  · obtain ⟨_, _, _, _, rfl, _⟩ := h
    rfl
  · obtain ⟨p, z, lot, most, rfl, hp, z0, z1, l0, l1, m0, m1, k⟩ := h
    have hr1 := hr.mono (show 1 ≤ 3 by decide)
    have hr2 := hr.mono (show 2 ≤ 3 by decide)
    refine ⟨_, pss_cons (ps_set (i := 4) scDeals.nd rfl (.inl rfl) (pe_lst pa_nil))
      (pss_cons (ps_for PassesOwn.never rfl (pi_range1 (by rfl) mR (pa_cons (pe_call G hr1 (by rfl) mG kG bG .nil pass0
          (pa_cons (pv 0) (pa_cons (pe_op op_add (pv 2) pe_int) pa_nil))) pa_nil)) (pg_name (i := 5) scDeals.nd rfl (.inl rfl))
        (pss_cons (ps_par (i := 6) (j := 7) (by rfl) scDeals.nd rfl rfl (by decide) rfl rfl
          (pa_cons (pe_call Ek hr (by rfl) mE kE bE .nil pass0 (pa_cons (pv 0) (pa_cons (pv 1) (pa_cons (pv 3) pa_nil))))
            (pa_cons (pe_call G hr1 (by rfl) mG kG bG .nil pass0 (pa_cons (pv 0) (pa_cons pe_int pa_nil))) pa_nil)) (by rfl))
        (pss_cons (ps_par (i := 8) (j := 9) (by rfl) scDeals.nd rfl rfl (by decide) rfl rfl
          (pa_cons (pe_call Hk hr2 (by rfl) mH kH bH .nil pass0 (pa_cons (pv 0) (pa_cons (pv 1) pa_nil)))
            (pa_cons (pe_call Ek hr (by rfl) mE kE bE .nil pass0 (pa_cons (pv 0) (pa_cons (pv 1) (pa_cons pe_int pa_nil)))) pa_nil)) (by rfl))
        (C8.pss_cut (ps_if (pt_cmpR op_gt (pv 7) pe_int (nomark _))
          (pss_one (ps_set (i := 9) scDeals.nd rfl (.inl rfl) (pe_ix ix_list (pe_lst (pa_cons (pe_op op_add_str (pv 8) (pv 6))
            (pa_cons (pe_slice sl_str (pv 6) (po_some pe_int) po_none) (pa_cons (pe_op op_add_str (pv 6) (pv 8)) (pa_cons (pe_revS (pv 6)) pa_nil)))))
            (pe_op op_sub (pv 7) pe_int) (fun _ _ => rfl)))) pss_nil)
        (pss_one (ps_expr (pe_bm PySem.F.plainAttrs_list PySem.F.slot_list_append PySem.F.type_list_append mtAppend (pv 4)
          (pa_cons (pe_tup (pa_cons (pe_call Hk hr2 (by rfl) mH kH bH .nil pass0 (pa_cons (pv 0) (pa_cons (pe_lst (pa_cons pe_str (pa_cons pe_str (pa_cons pe_str pa_nil)))) pa_nil)))
            (pa_cons (pv 6) (pa_cons (pv 9) pa_nil)))) pa_nil))))))))
      (pss_one (ps_ret (pv 4)))), ?_⟩
    refine ⟨by decide, fun D hD => ?_⟩
    have npD : p ≠ D := hp.ne hD
    refine ⟨_, rfl, _, rfl, _, _, rfl, rfl, p, lot + 1, rfl, hp.upd npD, by omega, by omega, fun d H1 d0 d1 hp1 b1 => ?_⟩
    refine ⟨d, rfl, by omega, by omega, ?_⟩
    have b0 : But p H H1 := ((But.refl p H).upd hD).trans b1
    refine for_range (lo := 0) (n := d.toNat) (fun i σ Hi => ∃ (o1 o2 o3 o4 o5 : Option V) (xs : List V) (rs : List Rule),
        σ = [some (.ref p), some (.str z), some (.int lot), some (.int most), some (.ref D), o1, o2, o3, o4, o5]
      ∧ PotAt Hi p ∧ But p H Hi ∧ Hi D = some (.lst xs) ∧ RulesAt Hi xs rs ∧ rs.length = i ∧ ∀ r ∈ rs, RuleOk z (most.toNat + 2) r ∧ r.old.length ≤ most.toNat) ?_ ?_ ?_
    · exact ⟨_, _, _, _, _, [], [], rfl, hp1, b0, b1 D _ upd_same (Ne.symm npD), .nil, rfl, fun _ h => nomatch h⟩
    · rintro i σ Hi hi ⟨o1, o2, o3, o4, o5, xs, rs, rfl, hpi, bi, hDi, hrs, hl, hok⟩
      refine ⟨_, rfl, _, rfl, _, rfl, p, z, most, rfl, hpi, z0, z1, m0, by omega, fun old H2 ov ol hp2 b2 => ?_⟩
      refine ⟨_, rfl, p, 5, rfl, hp2, by decide, by decide, fun way H3 w0 w1 hp3 b3 => ?_⟩
      refine ⟨_, _, rfl, _, rfl, _, rfl, p, _, rfl, hp3, .inr ⟨z, rfl, z0, z1, fun c H4 cz hp4 b4 => ?_⟩⟩
      refine ⟨_, rfl, _, rfl, p, z, 2, rfl, hp4, z0, z1, by decide, by decide, fun new H5 nv nl hp5 b5 => ?_⟩
      have b25 := ((b2.trans b3).trans b4).trans b5
      refine ⟨_, _, rfl, ?_⟩
      have ol' : old.length ≤ most.toNat := by omega
      have sz : sizeLine = 16777216 := rfl
      refine ⟨fun σ' H' => ∃ nw : Str, σ' = [some (.ref p), some (.str z), some (.int lot), some (.int most), some (.ref D), some (.int (0 + i)), some (.str old), some (.int way), some (.str ⟨#[c]⟩), some (.str nw)]
        ∧ Over z nw ∧ nw.length ≤ most.toNat + 2 ∧ PotAt H' p ∧ But p Hi H', ?_, ?_⟩
      · refine ⟨_, rfl, _, _, rfl, rfl, _, rfl, ?_⟩
        refine ite2 (fun hc => ?_) (fun hc => ?_)
        · have w2 : way > 0 := of_decide_eq_true hc
          refine ⟨_, rfl, _, rfl, _, _, rfl, rfl, (by rw [len_one, sz]; omega), _, rfl, 1, rfl, old, rfl, (by rw [sz]; omega), _, rfl, _, rfl, _, _, rfl, rfl, (by rw [len_one, sz]; omega), _, rfl, old, rfl, (by rw [sz]; omega), (by show 4 ≤ sizeLine; decide), fun L hL => ?_⟩
          have hpL := hp5.upd (o := .lst [V.str (⟨#[c]⟩ ++ old), V.str (cutS old (some 1) none), V.str (old ++ ⟨#[c]⟩), V.str ⟨old.cps.toList.reverse.toArray⟩]) (hp5.ne hL)
          have hbL : But p Hi (upd H5 L (.lst [V.str (⟨#[c]⟩ ++ old), V.str (cutS old (some 1) none), V.str (old ++ ⟨#[c]⟩), V.str ⟨old.cps.toList.reverse.toArray⟩])) := fun a u ea na => by
            have := b25 a u ea na
            rw [upd_ne (ne_of_none this hL)]
            exact this
          obtain ⟨x, hx, ex⟩ := atI_lt (xs := [V.str (⟨#[c]⟩ ++ old), V.str (cutS old (some 1) none), V.str (old ++ ⟨#[c]⟩), V.str ⟨old.cps.toList.reverse.toArray⟩]) (d := way - 1) (by omega) (by show way - 1 < 4; omega)
          refine ⟨_, rfl, _, _, rfl, rfl, L, _, _, x, rfl, rfl, SqL.of upd_same, ex, ?_⟩
          have hx' : ∃ nw : Str, x = .str nw ∧ Over z nw ∧ nw.length ≤ most.toNat + 2 := by
            simp only [List.mem_cons, List.mem_nil_iff, or_false] at hx
            rcases hx with rfl | rfl | rfl | rfl
            · exact ⟨_, rfl, over_app (over_one cz) ov, by rw [len_app, len_one]; omega⟩
            · exact ⟨_, rfl, over_cut ov _ _, Nat.le_trans (cutS_length _ _ _) (by omega)⟩
            · exact ⟨_, rfl, over_app ov (over_one cz), by rw [len_app, len_one]; omega⟩
            · exact ⟨_, rfl, over_rev ov, by rw [len_rev]; omega⟩
          obtain ⟨nw, rfl, h1, h2⟩ := hx'
          exact ⟨nw, rfl, h1, h2, hpL, hbL⟩
        · exact ⟨new, rfl, nv, by omega, hp5, b25⟩
      · rintro σ' H6 ⟨nw, rfl, h1, h2, hp6, b6⟩
        have hD6 := b6 D _ hDi (Ne.symm npD)
        refine ⟨_, rfl, .inl ⟨rfl, _, SqL.of hD6⟩, _, rfl, by decide, fun L hL => ?_⟩
        refine ⟨p, _, rfl, hp6.upd (hp6.ne hL), .inl ⟨L, _, rfl, Ne.symm (hp6.ne hL), SqL.of upd_same, by decide, by decide, fun x H7 hx hp7 b7 => ?_⟩⟩
        have hx' : ∃ b, x = .str (kd b) := by
          simp only [List.mem_cons, List.mem_nil_iff, or_false] at hx
          rcases hx with rfl | rfl | rfl
          · exact ⟨true, rfl⟩
          · exact ⟨true, rfl⟩
          · exact ⟨false, rfl⟩
        obtain ⟨kb, rfl⟩ := hx'
        refine ⟨_, rfl, _, rfl, (by show 3 ≤ sizeLine; decide), fun T hT => ?_⟩
        have b67 : But p Hi H7 := fun a u ea na => b7 a u (by
          have := b6 a u ea na
          rw [upd_ne (ne_of_none this hL)]
          exact this) na
        have hD7 := b67 D _ hDi (Ne.symm npD)
        have nDT : D ≠ T := ne_of_none hD7 hT
        have npT : p ≠ T := hp7.ne hT
        have lx := paired_len hrs
        refine ⟨D, xs, _, rfl, rfl, by rw [upd_ne nDT]; exact hD7, Nat.lt_of_lt_of_le (show xs.length < 2000 by omega) (by decide), ?_⟩
        refine ⟨_, _, _, _, _, xs ++ [.ref T], rs ++ [⟨kb, old, nw⟩], rfl, (hp7.upd npT).upd npD, ?_, upd_same, ?_, ?_, ?_⟩
        · intro a u ea na
          have e7 := b67 a u (bi a u ea na) na
          rw [upd_ne (ne_of_none ea hD), upd_ne (ne_of_none e7 hT)]
          exact e7
        · refine paired_snoc (RulesAt.imp hrs fun t a et => ?_) ⟨T, rfl, ?_⟩
          · have e7 := b67.tups hpi t a et
            have ntD : t ≠ D := ne_of e7 hD7 (by intro q; cases q)
            rw [upd_ne ntD, upd_ne (ne_of_none e7 hT)]
            exact e7
          · rw [upd_ne (Ne.symm nDT), upd_same]
            rfl
        · rw [List.length_append, hl]
          rfl
        · intro r hr'
          rcases List.mem_append.mp hr' with h | h
          · exact hok r h
          · rw [List.mem_singleton.mp h]
            exact ⟨⟨ov, Nat.le_trans ol' (Nat.le_add_right _ _), h1, h2⟩, ol'⟩
    · rintro σ Hi ⟨o1, o2, o3, o4, o5, xs, rs, rfl, hpi, bi, hDi, hrs, hl, hok⟩
      exact ⟨_, rfl, k D xs rs Hi hD hDi hrs (by omega) hok hpi bi⟩
end
end K23
namespace K23
open PySem PySem.Spec PyProof.Rows L2 FL
/-! ### what is heard of a deed, what is due -/
open LamX
abbrev sHeard : Stmt := topS 65
abbrev sDue : Stmt := topS 66
/-- what stands for the cells of several relays: their rules, or the error -/
def ToldAt (H : Hp) (p : Addr) (cs : List Rule) : Prop := match dueE cs with
  | some e => H p = some (.lst [.str e.1, .int e.2, .bl true])
  | none => ∃ A xs, H p = some (.lst [.str (Str.ofString "rules"), .ref A]) ∧ H A = some (.lst xs) ∧ RulesAt H xs (chg cs)
theorem ToldAt.mono {H H' : Hp} {p : Addr} {cs : List Rule} (h : ToldAt H p cs) (k : ∀ a xs, H a = some (.lst xs) → H' a = some (.lst xs)) (k2 : ∀ a xs, H a = some (.tup xs) → H' a = some (.tup xs)) : ToldAt H' p cs := by
  unfold ToldAt at h ⊢
  cases e : dueE cs with
  | some q =>
    rw [e] at h
    exact k _ _ h
  | none =>
    rw [e] at h
    obtain ⟨A, xs, h1, h2, h3⟩ := h
    exact ⟨A, xs, k _ _ h1, k _ _ h2, RulesAt.imp h3 fun t a q => k2 t a q⟩
theorem ToldAt.same {H H' : Hp} {p : Addr} {cs : List Rule} (h : ToldAt H p cs) (s : Same H H') : ToldAt H' p cs := h.mono (fun a _ e => s a _ e) fun a _ e => s a _ e
/-- the class of the error, as what is caught asks of it -/
structure ErH (K : PySem.W.Frag) (mg : Str → Option Value) (CT CB : Addr) : Prop where
  gT : mg "TooMany" = some (.ref CT)
  gB : mg "LimitError" = some (.ref CB)
  xf : XfC K CT
  n1 : PySem.W.findIn K (.ref CT) whT = some none
  n2 : PySem.W.findIn K (.ref CT) liT = some none
  ec : ExcC K CT
  tt : PySem.W.exmOne K (.ref CT) (.ref CT) = some true
  kB : PySem.W.kitOne K (.ref CT) (.ref CB) = some true
  kA : PySem.W.kitOne K (.ref CT) (.type "ArithmeticError") = some true
def hX (CT : Addr) (Q : VK) : XK := fun cls d H' => cls = .ref CT ∧ ∃ (dd : Addr) (e : Str × Int), d = some dd ∧ H' dd = some (.xd (tmF e)) ∧ ∀ p, H' p = none → Q (.ref p) (upd H' p (.lst [.str e.1, .int e.2, .bl true]))
def hV (C : Addr) (Q : VK) : VK := fun v H' => ∃ (x : Addr) (z : Str) (rs : List Rule), v = .ref x ∧ RelayAt C H' x z rs ∧ ∀ (A : Addr) (xs : List V) (H2 : Hp), H' A = none → H2 A = some (.lst xs) → RulesAt H2 xs rs → Same H' H2 → ∀ p, H2 p = none → Q (.ref p) (upd H2 p (.lst [.str (Str.ofString "rules"), .ref A]))
def TTh (C CT : Addr) : (XK → Hp → VK → Prop) → Hp → VK → Prop := fun tl H Q =>
  ∀ L, H L = none → ∀ (E : XK) (R : VK), (∀ cls d H', hX CT Q cls d H' → E cls d H') → (∀ v H', hV C Q v H' → R v H') → tl E (upd H L (.lst [.str (Str.ofString "other")])) R
theorem lookW (u v : V) : List.lookup whT [(liT, v), (whT, u)] = some u := by
  have e : (whT == liT) = false := by decide +kernel
  simp [List.lookup, e]
theorem lookL (u v : V) : List.lookup liT [(liT, v), (whT, u)] = some v := by simp [List.lookup]
abbrev nHeard : List Str := ["_law_deed", "_law_told", "e"]
theorem scHeard : FnScope nHeard ["_law_deed"] (defScope sHeard) := ⟨rfl, rfl, rfl, by decide +kernel, rfl, by decide +kernel, by decide +kernel⟩
theorem three {τ : L2.St} (h : τ.length = 3) : ∃ a b c, τ = [a, b, c] := by
  match τ, h with
  | [a, b, c], _ => exact ⟨a, b, c, rfl⟩
theorem heard_gives {X : Cx} {g : Addr} {cdg : Value} {q : Str} {CT CB : Addr} (R : RelF X.prog X.w X.K X.mg X.base) (T : ErH X.K X.mg CT CB) (hr : Room 2 X.A) (mI : X.mg "isinstance" = none) (mA : X.mg "ArithmeticError" = none) :
    LamX.GivesTo X nHeard "_law_heard" (defScope sHeard) g cdg (defBody sHeard) "_law_deed" q (TTh R.C CT) := by
  intro f c' s H Q tl act hc h
  have nd := scHeard.nd
  refine ⟨_, pss_cons (ps_set (i := 1) nd rfl (.inl rfl) (pe_lst (pa_cons pe_str pa_nil)))
    (pss_cons (ps_clauses (i := 2) rfl rfl nd rfl rfl LamX.takes0
      (tb := fun W D σ H => ∃ Ech : XK, (∀ c d τ G, τ.length = 3 → Ech c d G → W c d τ G) ∧ σ[0]? = some (some (V.ref f)) ∧ H c' = some (LamX.CodeO c' q) ∧ tl Ech H fun v G => ∃ a dx fs, v = .ref a ∧ G a = some (.ins R.C dx fs) ∧ fs.lookup (Str.ofString "rules") = none ∧
        spRules R.C [v] G (fun u G' => 2 ≤ sizeLine ∧ ∀ L2, G' L2 = none → D.nx (σ.set 1 (some (.ref L2))) (upd G' L2 (.lst [.str (Str.ofString "rules"), u]))) E0)
      (fun W pn xe tk _ => ⟨fun pins s' σ H' D I rd => by
        obtain ⟨Ech, hW, h1, h2, h3⟩ := rd
        exact (pss_one (ps_set (i := 1) nd rfl (.inl rfl) (pe_lst (pa_cons pe_str (pa_cons (pe_meth0 (act _ pn xe Ech _ _ (takes_len tk) fun c d τ G e len => hW c d τ G len e) R.T.cl R.mr R.or_ (hr.deeper _) R.br .nil pass0) pa_nil))))).run pins s' σ H' D I ⟨h1, h2, h3⟩⟩)
      (.more ⟨by rfl, by decide, .inl T.gT⟩ (fun a oe cls d pn hz hf => pss_one (ps_set (i := 1) nd rfl (.inl rfl) (pe_lst (pa_cons (pe_xf T.xf T.n1 hz hf (pv 2)) (pa_cons (pe_xf T.xf T.n2 hz hf (pv 2))
          (pa_cons (pe_and (pe_callB (call_isY hz hf) (by rfl) mI (by decide +kernel) (pa_cons (pv 2) (pa_cons (pe_glob (v := .ref CB) rfl T.gB rfl) pa_nil)))
            (pe_one (pe_callB (call_isY hz hf) (by rfl) mI (by decide +kernel) (pa_cons (pv 2) (pa_cons (pe_bltn (v := .ty "ArithmeticError") (by rfl) mA (by decide +kernel) rfl) pa_nil))))) pa_nil))))))
      .done))
    (pss_one (ps_ret (pv 1)))), ?_⟩
  refine ⟨(by show 1 ≤ sizeLine; decide), fun L hL => ?_⟩
  refine ⟨hX CT Q, ?_, rfl, by rw [upd_ne (ne_of_none hc hL)]; exact hc, h L hL _ _ (fun _ _ _ k => k) fun v H' ⟨x, z, rs, ev, rel, k⟩ => ?_⟩
  · intro cls d τ H' len hx
    obtain ⟨o0, o1, o2, rfl⟩ := three len
    obtain ⟨rfl, dd, ⟨w, n⟩, rfl, hdd, k⟩ := hx
    refine ⟨true, T.tt, fun _ a ha => ?_, fun z => Bool.noConfusion z⟩
    refine ⟨_, rfl, rfl, rfl, dd, _, .str w, rfl, hdd, lookW _ _, ?_⟩
    refine ⟨_, rfl, rfl, rfl, dd, _, .int n, rfl, hdd, lookL _ _, ?_⟩
    refine ⟨_, rfl, CT, dd, .ref CB, .ref CB, true, _, rfl, rfl, rfl, T.ec, (fun u hu => hu), T.kB, hdd, _, rfl, ?_⟩
    refine ⟨_, rfl, CT, dd, .ty "ArithmeticError", .type "ArithmeticError", true, _, rfl, rfl, rfl, T.ec, (fun u hu => hu), T.kA, hdd, (by show 3 ≤ sizeLine; decide), fun p hp => ?_⟩
    exact ⟨_, rfl, k p hp⟩
  · obtain ⟨n1, n2, n3⟩ := rules_no
    have rel0 := rel
    obtain ⟨dx, ra, ia, xs, h1, _⟩ := rel0
    refine ⟨x, dx, _, ev, h1, flds_no z ra ia n1 n2 n3, x, z, rs, by rw [ev], rel, fun A xs2 H2 nA gA rA s2 => ⟨(by show 2 ≤ sizeLine; decide), fun p hp => ⟨_, rfl, k A xs2 H2 nA gA rA s2 p hp⟩⟩⟩
structure LamT (T : List (Addr × Str)) (base : Heap) (mg : Str → Option Value) (c P : Addr) (q : Str) : Prop where
  tb : TabB base mg c P
  mem : (P, q) ∈ T
  only : ∀ z ∈ T, z.1 = P → z.2 = q
theorem pe_heard {X : Cx} {T : List (Addr × Str)} {g c P0 CT CB : Addr} {gd : FuncData} {k : Nat} {params : Arguments} {body : Expr} {scope : Scope} {t : XK → TE} {p lpos pos : Pos} (R : RelF X.prog X.w X.K X.mg X.base) (FH : Fun X.K "_law_heard" "_law_heard" sHeard g gd) (bH : L2.Binds X.K gd ["_law_deed"] []) (hg : Gl X "_law_heard")
    (hm : X.mg "_law_heard" = some (.ref g)) (Te : ErH X.K X.mg CT CB) (hr : Room (k + 2) X.A) (mI : X.mg "isinstance" = none) (mA : X.mg "ArithmeticError" = none) {q : Str} (LT : LamT T X.base X.mg c P0 q) (hcode : X.env.code = .ref c) (L : LamS X.env.scope scope) (hdef : defaultsOf params X.env = ([], []))
    (hbind : ∀ (q : Str) (cl : List (Str × Addr)) (pm cv ctv : Value), bindArgs (PySem.W.kla_fn "<lambda>" q params body scope cl pm cv ctv) ⟨[], []⟩ = pure [])
    (hbody : ∀ (A : Around) (outer : List Env) (s : Shared) (H : Hp) (E : XK) (f c' : Addr), Room k (A.deeper (lamEnv X scope s.heap.objs.size f c')) → PE (lamCx X A outer s H E scope f c') body (t E)) (hq : X.env.qual ++ "<lambda>" = q := by rfl) :
    PE X (.Call (.Name "_law_heard" p) [.Lambda params body scope lpos] [] pos) (tLam T (TTh R.C CT) t) := by
  obtain ⟨oc, od, kV, doc, pm, an, cdv, ct, osl, rfl, lk, hc⟩ := FH.ex
  subst hq
  exact pe_lamcall hg hm FH.kp lk hc bH scHeard rfl (by first | exact .inl rfl | exact .inr (.inl rfl)) (heard_gives R Te (hr.mono (Nat.le_add_left 2 k)) mI mA) LT.tb hcode LT.mem LT.only hr L hdef hbind hbody
theorem pass_lam {X : Cx} {A : Around} {outer : List Env} {s : Shared} {H : Hp} {E : XK} {scope : Scope} {f c' : Addr} : Passes (L2.CX X.prog X.w) (lamCx X A outer s H E scope f c') E :=
  passes_call (W := fun cls d _ H => E cls d H) (takes_of rfl rfl rfl rfl) fun _ _ _ _ h => h
/-! ### what is due -/
def lenR (r : Rule) : Int := if ((r.new.length : Nat) : Int) > ((r.old.length : Nat) : Int) then ((r.new.length : Nat) : Int) else ((r.old.length : Nat) : Int)
theorem lenR_is (r : Rule) : ((r.old.length : Nat) : Int) ≤ lenR r ∧ ((r.new.length : Nat) : Int) ≤ lenR r ∧ (lenR r = ((r.new.length : Nat) : Int) ∨ lenR r = ((r.old.length : Nat) : Int)) := by
  unfold lenR
  split <;> omega
theorem callLenK {X : Cx} {K : PySem.W.Frag} (hK : X.K = K) : CallR X (.builtin "len") (FL.rLen K) := by
  subst hK
  exact callLen
def Sml (z : Str) (rss : List (List Rule)) : Prop := ∀ rs ∈ rss, ∀ r ∈ rs, RuleOk z 4 r ∧ r.old.length ≤ 2
def spDue (K : PySem.W.Frag) : Sp := fun vs H Q _ => ∃ (z : Str) (S : Addr) (rss : List (List Rule)) (cs : List Rule), vs = [.str z, .ref S] ∧ Abc z ∧ Stg K H S rss ∧ Sml z rss ∧ TabS z rss cs ∧
  ∀ (H' : Hp) (p : Addr), Same H H' → H p = none → ToldAt H' p cs → Q (.ref p) H'
theorem sml_lens {z : Str} {rss : List (List Rule)} {cs : List Rule} (sm : Sml z rss) (few : rss.length ≤ 5) (h : TabS z rss cs) {c : Rule} (hc : c ∈ cs) : c.old.length ≤ 11 ∧ c.new.length ≤ 31 := by
  obtain ⟨us, hu, rfl⟩ := h
  obtain ⟨l, hl, rfl⟩ := List.mem_map.mp hc
  have uM : ∀ u ∈ us, u.length ≤ 10 := fun u hm => by
    have hs : shortB rss u = true := by
      cases e : shortB rss u with
      | true => rfl
      | false => exact absurd (far_evn e) ((hu.mem u).mp hm)
    have h1 := short_len (M := 2) (fun rs h r hr => (sm rs h r hr).2) hs
    omega
  have len : l.length ≤ 11 := by
    rcases mem_keys2.mp (mem_ordL.mp hl) with q | ⟨u, hm, c, _, q⟩ | q
    · rw [q]; decide +kernel
    · rw [q, len_app, show (sg c).length = 1 from rfl]
      have := uM u hm
      omega
    · have := uM l q
      omega
  have h2 := thr_len (b := 4) (rss := rss) (y := l) fun rs h r hr => (sm rs h r hr).1.n2
  refine ⟨len, ?_⟩
  show (thr rss l).length ≤ 31
  omega
section
variable {P : Program} {w : World} {K : PySem.W.Frag} {mg : Str → Option Value} {base : Heap}
abbrev nDue : List Str := ["_law_abc_here", "_law_stages", "_law_cards", "_law_found", "_law_kind", "_law_old", "_law_new"]
theorem scDue : FnScope nDue ["_law_abc_here", "_law_stages"] (defScope sDue) := ⟨rfl, rfl, rfl, by decide +kernel, rfl, by decide +kernel, by decide +kernel⟩
theorem ok_due {f : Addr} {fd : FuncData} (F : Fun K "_law_due" "_law_due" sDue f fd) (mX : mg "max" = none) (mN : mg "len" = none) (cC : Ca P w K mg base "_law_cells" 3 ["_law_abc_here", "_law_stages"] (spLawCells K)) (cH : Ca P w K mg base "_law_changed" 1 ["_law_cards"] (spChanged K)) :
    FnOk P w K mg base CX0 4 f fd ["_law_abc_here", "_law_stages"] (spDue K) := by
  refine F.ok scDue (fun vs H Q E h => ?_) (fun cdv A outer s H vs Q E hr h => ?_)
  · obtain ⟨_, _, _, _, rfl, _⟩ := h
    rfl
  · obtain ⟨z, S, rss, cs, rfl, az, hS, sm, tb, k⟩ := h
    have nd := scDue.nd
    have sz : sizeLine = 16777216 := rfl
    have ov : OvS z rss := fun rs h r hr => (sm rs h r hr).1.o1
    refine ⟨_, pss_cons (ps_set (i := 2) nd rfl (.inl rfl) (pe_ca cC hr (by rfl) (pa_cons (pv 0) (pa_cons (pv 1) pa_nil))))
      (pss_cons (ps_if (pt_cmpR op_gt (pe_callB callLen (by rfl) mN PySem.boot_len (pa_cons (pv 2) pa_nil)) pe_int (nomark _)) (pss_one (ps_ret (pe_lst (pa_cons pe_str (pa_cons pe_int (pa_cons pe_bl pa_nil)))))) pss_nil)
      (pss_cons (ps_set (i := 3) nd rfl (.inl rfl) (pe_ca cH (hr.mono (by decide)) (by rfl) (pa_cons (pv 2) pa_nil)))
      (pss_cons (ps_if (pt_cmpR op_gt (pe_callB (cr_max rfl) (by rfl) mX (by decide +kernel) (pa_cons (pe_op op_cat (pe_lst (pa_cons pe_int pa_nil))
          (pe_lc (own := [("_law_kind", 4), ("_law_old", 5), ("_law_new", 6)]) (g := gTup K 3 (gCons (gName 4) (gCons (gName 5) (gCons (gName 6) gNil)))) (tt := tYes) rfl nd (pi_list (pv 3))
            (blkOk_by (N := nDue) (sc := defScope sDue) (by decide +kernel))
            (fun _ _ _ _ _ => pg_tup rfl (pgs_cons (pg_name (i := 4) nd rfl (Or.inl rfl)) (pgs_cons (pg_name (i := 5) nd rfl (Or.inl rfl)) (pgs_cons (pg_name (i := 6) nd rfl (Or.inl rfl)) pgs_nil))))
            (fun _ _ _ _ _ => pts_nil)
            (fun _ _ _ _ _ => pe_callB (call_max2 rfl) (by rfl) mX (by decide +kernel) (pa_cons (pe_callB (callLenK (K := K) rfl) (by rfl) mN PySem.boot_len (pa_cons (pv 5) pa_nil)) (pa_cons (pe_callB (callLenK (K := K) rfl) (by rfl) mN PySem.boot_len (pa_cons (pv 6) pa_nil)) pa_nil))))) pa_nil)) pe_int (nomark _))
        (pss_one (ps_ret (pe_lst (pa_cons pe_str (pa_cons pe_int (pa_cons pe_bl pa_nil)))))) pss_nil)
      (pss_one (ps_ret (pe_lst (pa_cons pe_str (pa_cons (pv 3) pa_nil)))))))), ?_⟩
    refine ⟨_, rfl, _, rfl, z, S, rss, 10, rfl, az, hS, fun y hy => (by have h1 := short_len (M := 2) (fun rs h r hr => (sm rs h r hr).2) hy; have := hS.few; omega), by decide, fun H1 D xs N s1 nD gD bf rD lN => ?_⟩
    have eN : lawCells z rss N = cs := TabS.one ov ⟨_, uns_of_bfs ov bf, law_cells ov bf (uns_of_bfs ov bf)⟩ tb
    rw [eN] at rD
    have lx := paired_len rD
    have lens := fun c => sml_lens (c := c) sm hS.few tb
    refine ⟨_, rfl, _, xs.length, rfl, .inl ⟨_, SqL.of gD, rfl⟩, _, _, rfl, rfl, _, rfl, ?_⟩
    refine ite2 (fun hgt => ?_) (fun hle => ?_)
    · have gt : 400 < cs.length := by have := of_decide_eq_true hgt; omega
      refine ⟨(by show 3 ≤ sizeLine; decide), fun p hp => ?_⟩
      refine k _ p (s1.upd (s1.none hp)) (s1.none hp) ?_
      unfold ToldAt dueE
      rw [if_pos gt]
      exact upd_same
    · have le : cs.length ≤ 400 := by
        have : ¬ ((xs.length : Int) > 400) := fun q => hle (decide_eq_true q)
        omega
      refine ⟨_, rfl, D, xs, cs, rfl, SqL.of gD, rD, by omega, fun F ys H2 s2 nF gF rF => ?_⟩
      have s12 := s1.trans s2
      have ly := paired_len rF
      have fch : (chg cs).length ≤ 400 := Nat.le_trans (List.length_filter_le _ _) le
      refine ⟨by show 1 ≤ sizeLine; decide, fun A1 hA1 => ?_⟩
      have s3 : Same H2 (upd H2 A1 (.lst [.int 0])) := (Same.refl H2).upd hA1
      have g1 : upd H2 A1 (.lst [.int 0]) A1 = some (.lst [.int 0]) := upd_same
      generalize upd H2 A1 (.lst [.int 0]) = H3 at s3 g1 ⊢
      refine ⟨_, rfl, F, rfl, ⟨_, SqL.of (s3 _ _ gF)⟩, fun C hC => ?_⟩
      refine lc_it (walk_list (xs := ys)) (fun j Hj => Same H3 Hj ∧ Hj C = some (.lst (((chg cs).take j).map fun r => V.int (lenR r)))) ?_ ?_ ?_ ?_
      · exact ⟨(Same.refl _).upd hC, by rw [upd_same, List.take_zero]; rfl⟩
      · rintro j Hj _ ⟨sj, _⟩
        exact sj.sqL (SqL.of (s3 _ _ gF))
      · rintro j xv Hj0 Hj hj ⟨sj, gC⟩ ⟨rfl, hxj⟩
        obtain ⟨c, hc, t, rfl, hT⟩ := L2.paired_get (Same.rules sj (Same.rules s3 rF)) hxj
        obtain ⟨l1, l2⟩ := lens c (chg_mem.mp (List.mem_of_getElem? hc)).1
        refine ⟨t, _, rfl, SqT.of hT, rfl, _, _, rfl, _, _, rfl, _, _, rfl, rfl, rfl, ?_⟩
        refine ⟨_, rfl, .str c.old, c.old.length, rfl, ⟨(by rw [sz]; omega), rfl⟩, _, rfl, .str c.new, c.new.length, rfl, ⟨(by rw [sz]; omega), rfl⟩, _, _, rfl, ?_⟩
        refine ⟨_, gC, (by rw [List.length_map, List.length_take, sz]; omega), sj.upd hC, ?_⟩
        rw [upd_same, take_snoc hc, List.map_append, List.map_cons, List.map_nil]
        unfold lenR
        rfl
      · rintro Hd ⟨sd, gC⟩
        rw [ly, List.take_length] at gC
        have s1d := (s12.trans s3).trans sd
        refine ⟨A1, C, [.int 0], (chg cs).map fun r => V.int (lenR r), rfl, rfl, sd _ _ g1, gC, (by rw [List.length_map, sz]; show 1 + _ ≤ _; omega), fun B hB => ?_⟩
        have s4 : Same H (upd Hd B (.lst ([.int 0] ++ (chg cs).map fun r => V.int (lenR r)))) := s1d.upd (s1d.none hB)
        have s42 : Same H2 (upd Hd B (.lst ([.int 0] ++ (chg cs).map fun r => V.int (lenR r)))) := (s3.trans sd).upd ((s3.trans sd).none hB)
        have g4 : upd Hd B (.lst ([.int 0] ++ (chg cs).map fun r => V.int (lenR r))) B = some (.lst ((0 :: (chg cs).map lenR).map V.int)) := by
          rw [upd_same, List.map_cons, List.map_map]
          rfl
        generalize upd Hd B (.lst ([.int 0] ++ (chg cs).map fun r => V.int (lenR r))) = H4 at s4 s42 g4 ⊢
        refine ⟨B, 0 :: (chg cs).map lenR, rfl, SqL.of g4, Nat.succ_pos _, fun m hm hle => ?_⟩
        refine ⟨_, _, rfl, rfl, _, rfl, ?_⟩
        have big : (m > 40) ↔ bigB (chg cs) = true := by
          constructor
          · intro q
            cases e : bigB (chg cs) with
            | true => rfl
            | false =>
              have all := bigB_no.mp e
              exfalso
              rcases List.mem_cons.mp hm with rfl | hm
              · omega
              · obtain ⟨r, hr, rfl⟩ := List.mem_map.mp hm
                have h1 := all r hr
                have h2 := lenR_is r
                omega
          · intro q
            refine Classical.byContradiction fun nm => ?_
            have e : bigB (chg cs) = false := bigB_no.mpr fun r hr => by
              have h1 := hle (lenR r) (List.mem_cons_of_mem _ (List.mem_map.mpr ⟨r, hr, rfl⟩))
              have h2 := lenR_is r
              omega
            rw [e] at q
            cases q
        refine ite2 (fun hgt => ?_) (fun hno => ?_)
        · have e := big.mp (of_decide_eq_true hgt)
          refine ⟨(by show 3 ≤ sizeLine; decide), fun p hp => ?_⟩
          refine k _ p (s4.upd (s4.none hp)) (s4.none hp) ?_
          unfold ToldAt dueE
          rw [if_neg (by omega), e]
          exact upd_same
        · have e : bigB (chg cs) = false := by
            cases e : bigB (chg cs) with
            | false => rfl
            | true => exact absurd (decide_eq_true (big.mpr e)) hno
          refine ⟨_, rfl, (by show 2 ≤ sizeLine; decide), fun p hp => ?_⟩
          refine k _ p (s4.upd (s4.none hp)) (s4.none hp) ?_
          have d : dueE cs = none := dueE_none.mpr ⟨le, e⟩
          unfold ToldAt
          rw [d]
          have sp : Same H4 (upd H4 p (.lst [.str (Str.ofString "rules"), .ref F])) := (Same.refl H4).upd hp
          exact ⟨F, ys, upd_same, sp _ _ (s42 _ _ gF), Same.rules sp (Same.rules s42 rF)⟩
end
end K23
namespace K23
open PySem PySem.Spec PyProof.Rows L2 FL
open LamX
/-! ### told twice, the same -/
def resD (cs : List Rule) : PyData := match dueE cs with
  | some e => .list [.str e.1, .int e.2, .bool true]
  | none => .list [.str (Str.ofString "rules"), .list ((chg cs).map ruleD)]
theorem ToldAt.dp {K : PySem.W.Frag} {H : Hp} {p : Addr} {cs : List Rule} (h : ToldAt H p cs) : Dp K H (.ref p) (resD cs) := by
  unfold ToldAt at h
  unfold resD
  cases e : dueE cs with
  | some q =>
    rw [e] at h
    exact .lst (SqL.of h) (.cons (.str _) (.cons (.int _) (.cons (.bl _) .nil)))
  | none =>
    rw [e] at h
    obtain ⟨A, xs, h1, h2, h3⟩ := h
    exact .lst (SqL.of h1) (.cons (.str _) (.cons (dp_list (SqL.of h2) h3) .nil))
theorem eqv_own {n : Nat} {d : PyData} (h : Sm n d) : PyData.eqv d d = true := SeqAt.eqv_refl d h.cl
theorem dueE_is {cs : List Rule} {e : Str × Int} (h : dueE cs = some e) : e = (Str.ofString "cells", 400) ∨ e = (Str.ofString "signs", 40) := by
  unfold dueE at h
  by_cases h1 : 400 < cs.length
  · rw [if_pos h1] at h
    exact .inl (Option.some.inj h).symm
  · rw [if_neg h1] at h
    cases hb : bigB (chg cs) with
    | true =>
      rw [hb] at h
      exact .inr (Option.some.inj h).symm
    | false =>
      rw [hb] at h
      cases h
theorem word_plain {w : Str} (h : w = Str.ofString "cells" ∨ w = Str.ofString "signs" ∨ w = Str.ofString "rules") : Plain w ∧ w.length ≤ 5 := by
  rcases h with rfl | rfl | rfl
  all_goals exact ⟨by intro c hc; revert c; decide +kernel, by decide +kernel⟩
theorem sm_int400 : Sm 10 (.int 400) := ⟨by decide +kernel, rfl, rfl, Nat.zero_le _, by decide +kernel⟩
theorem sm_int40 : Sm 10 (.int 40) := ⟨by decide +kernel, rfl, rfl, Nat.zero_le _, by decide +kernel⟩
theorem res_sm {z : Str} {cs : List Rule} (az : Abc z) (ok : dueE cs = none → ROk z (chg cs)) : Sm 500000 (resD cs) ∧ (resD cs).depth ≤ 3 := by
  unfold resD
  cases e : dueE cs with
  | some q =>
    have key : ∀ (w : Str) (n : Int), Sm 52 (.str w) → Sm 10 (.int n) → Sm 500000 (.list [.str w, .int n, .bool true]) ∧ (PyData.list [.str w, .int n, .bool true]).depth ≤ 3 := fun w n h1 h2 =>
      ⟨(Sm.list (k := 0) (SmL.cons h1 (Nat.le_refl _) (SmL.cons h2 (Nat.le_refl _) (SmL.cons (Sm.bool true) (Nat.le_refl _) SmL.nil))) (by decide)).mono (by decide), by simp [PyData.depth, PyData.depthAll]⟩
    rcases dueE_is e with rfl | rfl
    · obtain ⟨pl, ll⟩ := word_plain (w := Str.ofString "cells") (.inl rfl)
      exact key _ _ ((Sm.str pl).mono (by omega)) sm_int400
    · obtain ⟨pl, ll⟩ := word_plain (w := Str.ofString "signs") (.inr (.inl rfl))
      exact key _ _ ((Sm.str pl).mono (by omega)) sm_int40
  | none =>
    have rok := ok e
    have rp : RP 40 (chg cs) := fun r hr => ⟨az.plain (rok.ok r hr).o1, az.plain (rok.ok r hr).n1, (rok.ok r hr).o2, (rok.ok r hr).n2⟩
    have s1 := rp.sm40 rok.few
    obtain ⟨pl, ll⟩ := word_plain (w := Str.ofString "rules") (.inr (.inr rfl))
    have d1 : (PyData.list ((chg cs).map ruleD)).depth ≤ 2 := by
      have h1 := (SmL.rules rp).dp
      show PyData.depthAll _ + 1 ≤ 2
      omega
    refine ⟨(Sm.list (k := 2) (SmL.cons ((Sm.str pl).mono (show _ ≤ 52 by omega)) (Nat.zero_le _) (SmL.cons s1 d1 SmL.nil)) (by decide)).mono (by decide), ?_⟩
    show max _ (max _ 0) + 1 ≤ 3
    have : (PyData.str (Str.ofString "rules")).depth = 0 := rfl
    omega
/-! ### the places, all but tables as they were -/
theorem rules_ext {H H' : Hp} {xs : List V} {rs : List Rule} (e : ExtN H H') (h : RulesAt H xs rs) : RulesAt H' xs rs := RulesAt.imp h fun t a q => e t _ q not_tbl_t
theorem relay_ext {C : Addr} {H H' : Hp} {x : Addr} {z : Str} {rs : List Rule} (e : ExtN H H') (h : RelayAt C H x z rs) : RelayAt C H' x z rs := by
  obtain ⟨dx, ra, ia, xs, h1, h2, h3, kvs, h4, h5, h6⟩ := h
  exact ⟨dx, ra, ia, xs, e _ _ h1 (fun _ z => by cases z), e _ _ h2 not_tbl_l, rules_ext e h3, kvs, e _ _ h4 (fun _ z => by cases z), h5, h6.imp fun t a q => e t _ q not_tbl_t⟩
theorem ToldAt.ext {H H' : Hp} {p : Addr} {cs : List Rule} (h : ToldAt H p cs) (e : ExtN H H') : ToldAt H' p cs := h.mono (fun a _ q => e a _ q not_tbl_l) fun a _ q => e a _ q not_tbl_t
theorem ix_listK {X : Cx} {K : PySem.W.Frag} (hK : X.K = K) : IxR X (rIxL K) := hK ▸ ix_list
/-- what is heard of a deed: what stands for its cells -/
theorem told_of {C CT : Addr} {tl : XK → Hp → VK → Prop} {H : Hp} {Q : VK} {z : Str} {cs : List Rule}
    (deed : ∀ (E : XK) (R : VK) (H1 : Hp), Same H H1 → (∀ e, dueE cs = some e → ∀ H2 d, Same H1 H2 → H2 d = none → E (.ref CT) (some d) (upd H2 d (.xd (tmF e)))) → (dueE cs = none → ∀ H2 x, Same H1 H2 → H1 x = none → RelayAt C H2 x z (chg cs) → R (.ref x) H2) → tl E H1 R)
    (k : ∀ H2 p, Same H H2 → H p = none → ToldAt H2 p cs → Q (.ref p) H2) : TTh C CT tl H Q := by
  intro L hL E R hE hR
  have s0 : Same H (upd H L (.lst [.str (Str.ofString "other")])) := (Same.refl H).upd hL
  refine deed E R _ s0 (fun e he H2 d s2 hd => hE _ _ _ ⟨rfl, d, e, rfl, upd_same, fun p hp => ?_⟩) fun he H2 x s2 nx rel => hR _ _ ⟨x, z, chg cs, rfl, rel, fun A xs H3 nA gA rA s3 p hp => ?_⟩
  · have s1 := s0.trans s2
    have s3 : Same H (upd H2 d (.xd (tmF e))) := s1.upd (s1.none hd)
    refine k _ p (s3.upd (s3.none hp)) (s3.none hp) ?_
    unfold ToldAt
    rw [he]
    exact upd_same
  · have s1 := (s0.trans s2).trans s3
    refine k _ p (s1.upd (s1.none hp)) (s1.none hp) ?_
    have sp : Same H3 (upd H3 p (.lst [.str (Str.ofString "rules"), .ref A])) := (Same.refl H3).upd hp
    unfold ToldAt
    rw [he]
    exact ⟨A, xs, upd_same, sp _ _ gA, Same.rules sp rA⟩
theorem tabS_ex {z : Str} (az : Abc z) {rss : List (List Rule)} (ov : OvS z rss) {B : Nat} (hB : ∀ y, shortB rss y = true → y.length ≤ B) : ∃ cs, TabS z rss cs := by
  classical
  obtain ⟨us, nd, hm⟩ := once_ex ((notesL z B).filter fun u => decide (¬ Evn (ls z) (tLs rss) (ls u)))
  refine ⟨_, us, ⟨nd, fun u => ?_⟩, rfl⟩
  rw [hm, List.mem_filter, decide_eq_true_eq]
  refine ⟨fun q => q.2, fun q => ⟨mem_notes.mpr ⟨uns_over ov q, ?_⟩, q⟩⟩
  refine hB u ?_
  cases e : shortB rss u with
  | true => rfl
  | false => exact absurd (far_evn e) q
theorem Dl3.sml {z : Str} {rss : List (List Rule)} (h : ∀ rs ∈ rss, Dl3 z rs) : Sml z rss := fun rs m r hr => ⟨(h rs m).ok r hr, Nat.le_trans ((h rs m).short r hr) (most2_le z)⟩
theorem Sml.tab {z : Str} (az : Abc z) {rss : List (List Rule)} (h : Sml z rss) : ∃ cs, TabS z rss cs := tabS_ex az (fun rs m r hr => (h rs m r hr).1.o1) fun y hy => short_len (M := 2) (fun rs m r hr => (h rs m r hr).2) hy
theorem Sml.ok {z : Str} {rss : List (List Rule)} (h : Sml z rss) : ∀ rs ∈ rss, ∀ r ∈ rs, RuleOk z 40 r := fun rs m r hr => (h rs m r hr).1.mono (by decide)
theorem Sml.of2 {z : Str} {a b : List Rule} (ha : Dl3 z a) (hb : Dl3 z b) : Sml z [a, b] := Dl3.sml fun rs m => by
  rcases List.mem_cons.mp m with rfl | m
  · exact ha
  · rw [List.mem_singleton.mp m]
    exact hb
theorem ok_two {z : Str} {a b : List Rule} (ha : ROk z a) (hb : ROk z b) : ∀ rs ∈ [a, b], ∀ r ∈ rs, RuleOk z 40 r := fun rs m => by
  rcases List.mem_cons.mp m with rfl | m
  · exact ha.ok
  · rw [List.mem_singleton.mp m]
    exact hb.ok
theorem pass_lamX {X : Cx} {A : Around} {outer : List Env} {s : Shared} {H : Hp} {E : XK} {scope : Scope} {f c' : Addr} : Passes (L2.CX (lamCx X A outer s H E scope f c').prog (lamCx X A outer s H E scope f c').w) (lamCx X A outer s H E scope f c') E := pass_lam (X := X)
/-! ### _law_three_right -/
abbrev sThree : Stmt := topS 68
abbrev nThree : List Str := ["_law_abc_here", "_law_plans", "_law_told", "_law_left", "_law_right_here"]
theorem scThree : FnScope nThree ["_law_abc_here", "_law_plans"] (defScope sThree) := ⟨rfl, rfl, rfl, by decide +kernel, rfl, by decide +kernel, by decide +kernel⟩
abbrev treQ : Str := ((Str.ofString "_law_three_right") ++ (Str.ofString ".<locals>.")) ++ (Str.ofString "<lambda>")
def spThree (C : Addr) (T : List (Addr × Str)) : Sp := fun vs H Q _ => ∃ (z : Str) (L a b c : Addr) (r0 r1 r2 cs : List Rule), vs = [.str z, .ref L] ∧ Tabs T H ∧ Abc z ∧ H L = some (.lst [.ref a, .ref b, .ref c]) ∧ RelayAt C H a z r0 ∧ RelayAt C H b z r1 ∧ RelayAt C H c z r2 ∧
  Dl3 z r0 ∧ Dl3 z r1 ∧ Dl3 z r2 ∧ TabS z [r0, r1, r2] cs ∧ ∀ H', ExtN H H' → Tabs T H' → Q (.bl true) H'
section
variable {P : Program} {w : World} {K : PySem.W.Frag} {mg : Str → Option Value} {base : Heap}
theorem extN_at {H H' : Hp} {M : Addr} {o : HO} (e : ExtN H H') (n : ∀ o, H M = some o → ∃ ps, o = .tbl ps) : ExtN H (upd H' M o) := fun c u q t => by
  rw [upd_ne (fun z => by
    rw [z] at q
    obtain ⟨ps, w⟩ := n u q
    exact t ps w)]
  exact e c u q t
/-- a list of what is told is no list of rules -/
theorem rules_ne {H : Hp} {xs ys qs : List V} {rs : List Rule} {A M q : Addr} (hA : H A = some (.lst xs)) (hr : RulesAt H xs rs) (hM : H M = some (.lst (.ref q :: qs))) (hq : H q = some (.lst ys)) : A ≠ M := fun z => by
  rw [z, hM] at hA
  cases hA
  cases hr with
  | cons x _ =>
    obtain ⟨t, e, g⟩ := x
    cases e
    rw [hq] at g
    cases g
theorem rules_updM {H : Hp} {xs : List V} {rs : List Rule} {M : Addr} {l : List V} {o : HO} (hr : RulesAt H xs rs) (hM : H M = some (.lst l)) : RulesAt (upd H M o) xs rs := RulesAt.imp hr fun t a g => by
  rw [upd_ne (fun z => by rw [z, hM] at g; cases g)]
  exact g
theorem relay_updT {C : Addr} {H : Hp} {x M q : Addr} {z : Str} {rs : List Rule} {qs ys : List V} {o : HO} (h : RelayAt C H x z rs) (hM : H M = some (.lst (.ref q :: qs))) (hq : H q = some (.lst ys)) : RelayAt C (upd H M o) x z rs := by
  obtain ⟨dx, ra, ia, xs, h1, h2, h3, kvs, h4, h5, h6⟩ := h
  have n : ∀ {c : Addr} {u : HO}, H c = some u → (∀ l, u ≠ .lst l) → c ≠ M := fun {c u} e k z => by
    rw [z, hM] at e
    exact k _ (Option.some.inj e).symm
  refine ⟨dx, ra, ia, xs, ?_, ?_, rules_updM h3 hM, kvs, ?_, h5, h6.imp fun t a g => ?_⟩
  · rw [upd_ne (n h1 fun l z => by cases z)]
    exact h1
  · rw [upd_ne (rules_ne h2 h3 hM hq)]
    exact h2
  · rw [upd_ne (n h4 fun l z => by cases z)]
    exact h4
  · rw [upd_ne (n g fun l z => by cases z)]
    exact g
theorem told_lst {H : Hp} {t : Addr} {cs : List Rule} (h : ToldAt H t cs) : ∃ w l, H t = some (.lst (.str w :: l)) := by
  unfold ToldAt at h
  cases e : dueE cs with
  | some q =>
    rw [e] at h
    exact ⟨_, _, h⟩
  | none =>
    rw [e] at h
    obtain ⟨A, xs, h1, _⟩ := h
    exact ⟨_, _, h1⟩
theorem told_updM {H : Hp} {t M q : Addr} {cs : List Rule} {qs ys : List V} {o : HO} (h : ToldAt H t cs) (hM : H M = some (.lst (.ref q :: qs))) (hq : H q = some (.lst ys)) : ToldAt (upd H M o) t cs := by
  have nt : t ≠ M := fun z => by
    obtain ⟨w, l, e⟩ := told_lst h
    rw [z, hM] at e
    cases e
  unfold ToldAt at h ⊢
  cases e : dueE cs with
  | some q =>
    rw [e] at h
    show upd H M o t = _
    rw [upd_ne nt]
    exact h
  | none =>
    rw [e] at h
    obtain ⟨A, xs, h1, h2, h3⟩ := h
    exact ⟨A, xs, by rw [upd_ne nt]; exact h1, by rw [upd_ne (rules_ne h2 h3 hM hq)]; exact h2, rules_updM h3 hM⟩
theorem tabs_updL {T : List (Addr × Str)} {H : Hp} {L : Addr} {xs : List V} {o : HO} (t : Tabs T H) (hL : H L = some (.lst xs)) : Tabs T (upd H L o) := fun q hq => by
  obtain ⟨ps, h1, h2, h3⟩ := t q hq
  have ne : ∀ {c : Addr} {o : HO}, H c = some o → (∀ xs, o ≠ .lst xs) → c ≠ L := fun e n z => by
    rw [z, hL] at e
    exact n _ (Option.some.inj e).symm
  refine ⟨ps, by rw [upd_ne (ne h1 fun xs z => by cases z)]; exact h1, h2, fun pos cv hc => ?_⟩
  obtain ⟨c, e1, e2⟩ := h3 pos cv hc
  exact ⟨c, e1, by rw [upd_ne (ne e2 fun xs z => by unfold CodeO at z; cases z)]; exact e2⟩
structure Tre (C L a b c x y : Addr) (T : List (Addr × Str)) (z : Str) (r0 r1 r2 c01 c12 : List Rule) (H0 H : Hp) : Prop where
  ext : ExtN H0 H
  tab : Tabs T H
  hL : H L = some (.lst [.ref a, .ref b, .ref c])
  ra : RelayAt C H a z r0
  rb : RelayAt C H b z r1
  rc : RelayAt C H c z r2
  rx : RelayAt C H x z (chg c01)
  ry : RelayAt C H y z (chg c12)
theorem Tre.byE {C L a b c x y : Addr} {T : List (Addr × Str)} {z : Str} {r0 r1 r2 c01 c12 : List Rule} {H0 H H' : Hp} (o : Tre C L a b c x y T z r0 r1 r2 c01 c12 H0 H) (e : ExtN H H') (t : Tabs T H') : Tre C L a b c x y T z r0 r1 r2 c01 c12 H0 H' :=
  ⟨o.ext.trans e, t, e _ _ o.hL not_tbl_l, relay_ext e o.ra, relay_ext e o.rb, relay_ext e o.rc, relay_ext e o.rx, relay_ext e o.ry⟩
theorem Tre.same {C L a b c x y : Addr} {T : List (Addr × Str)} {z : Str} {r0 r1 r2 c01 c12 : List Rule} {H0 H H' : Hp} (o : Tre C L a b c x y T z r0 r1 r2 c01 c12 H0 H) (s : Same H H') : Tre C L a b c x y T z r0 r1 r2 c01 c12 H0 H' := o.byE (.of s) (o.tab.ext s)
theorem ext_none {H H' : Hp} {p : Addr} (e : ExtN H H') (n : H' p = none) : ∀ o, H p = some o → ∃ ps, o = .tbl ps := fun o q => Classical.byContradiction fun m => by
  rw [e p o q fun ps z => m ⟨ps, z⟩] at n
  cases n
theorem extN_upd {H H' : Hp} {p : Addr} {o : HO} (e : ExtN H H') (n : H' p = none) : ExtN H (upd H' p o) := fun c u q t => by
  have := e c u q t
  rw [upd_ne (ne_of_none this n)]
  exact this
/-- what a product asks -/
theorem mul_wish {C CT : Addr} {H : Hp} {Q : VK} {E : XK} {p q : Addr} {z : Str} {r1 r2 cs : List Rule} (h1 : RelayAt C H p z r1) (h2 : RelayAt C H q z r2) (az : Abc z) (ok1 : ROk z r1) (ok2 : ROk z r2) (tb : TabS z [r1, r2] cs)
    (kE : ∀ e, dueE cs = some e → ∀ H' d, Same H H' → H' d = none → E (.ref CT) (some d) (upd H' d (.xd (tmF e)))) (k : dueE cs = none → ∀ H' x, Same H H' → H x = none → RelayAt C H' x z (chg cs) → Q (.ref x) H') : rMulX C (spMulX C CT) E (.ref p) (.ref q) H Q := by
  obtain ⟨dx, ra, ia, xs, e1, _⟩ := id h1
  obtain ⟨dy, rb, ib, ys, e2, _⟩ := id h2
  exact ⟨p, q, dx, _, dy, _, rfl, rfl, e1, e2, p, q, z, r1, r2, cs, rfl, h1, h2, az, ok1, ok2, tb, kE, fun he H' x s nx rel => ⟨x, rfl, k he H' x s nx rel⟩⟩
theorem ok_three {f g c0 P0 CT CB fm : Addr} {fd gd dm : FuncData} {T : List (Addr × Str)} (F : Fun K "_law_three_right" "_law_three_right" sThree f fd) (hcd : fd.code = .ref c0) (LT : LamT T base mg c0 P0 treQ) (R : RelF P w K mg base)
    (FH : Fun K "_law_heard" "_law_heard" sHeard g gd) (bH : L2.Binds K gd ["_law_deed"] []) (mH : mg "_law_heard" = some (.ref g)) (Te : ErH K mg CT CB) (tM : MulT K R.C fm dm) (oM : FnOk P w K mg base (L2.CX P w) 8 fm dm ["self", "other"] (spMulX R.C CT)) (mI : mg "isinstance" = none) (mA : mg "ArithmeticError" = none) :
    FnG P w K mg base CX0 11 f fd ["_law_abc_here", "_law_plans"] (spThree R.C T) := by
  refine okGC F hcd scThree (fun vs H Q E h => ?_) (fun A outer s H vs Q E hr hg h => ?_)
  · obtain ⟨_, _, _, _, _, _, _, _, _, rfl, _⟩ := h
    rfl
  · obtain ⟨z, L, a, b, c, r0, r1, r2, cs, rfl, hT, az, hL, ra, rb, rc, d0, d1, d2, tb, k⟩ := h
    have nd := scThree.nd
    have h8 := hr.mono (show 8 ≤ 10 by decide)
    have h1 := hr.mono (show 1 ≤ 10 by decide)
    refine ⟨_, C8.pss_cut (ps_asg (pe_tup (pa_cons (pe_op (op_mulX tM oM h8 passL) (pe_ix ix_list (pv 1) pe_int (fun _ _ => rfl)) (pe_ix ix_list (pv 1) pe_int (fun _ _ => rfl))) (pa_cons (pe_op (op_mulX tM oM h8 passL) (pe_ix ix_list (pv 1) pe_int (fun _ _ => rfl)) (pe_ix ix_list (pv 1) pe_int (fun _ _ => rfl))) pa_nil)))
        (pg_tup rfl (pgs_cons (pg_name (i := 3) nd rfl (.inr rfl)) (pgs_cons (pg_name (i := 4) nd rfl (.inr rfl)) pgs_nil))))
      (C8.pss_cut (ps_set (i := 2) nd rfl (.inl rfl) (pe_lst (pa_cons (pe_heard R FH bH (by rfl) mH Te (k := 8) hr mI mA LT (by rfl) (lamS_by (by show lamSB (defScope sThree) _ = true; decide +kernel)) (by rfl) (by intro _ _ _ _ _; rfl) (fun A' o' s' H' E' f' c' hr' => pe_op (op_mulX (E := E') tM oM hr' pass_lamX) (pv 3) (pe_ix (ix_listK (K := K) rfl) (pv 1) pe_int (fun _ _ => rfl)))) pa_nil)))
      (C8.pss_cut (ps_expr (pe_bm PySem.F.plainAttrs_list PySem.F.slot_list_append PySem.F.type_list_append mtAppend (pv 2) (pa_cons (pe_heard R FH bH (by rfl) mH Te (k := 8) hr mI mA LT (by rfl) (lamS_by (by show lamSB (defScope sThree) _ = true; decide +kernel)) (by rfl) (by intro _ _ _ _ _; rfl) (fun A' o' s' H' E' f' c' hr' => pe_op (op_mulX (E := E') tM oM hr' pass_lamX) (pe_ix (ix_listK (K := K) rfl) (pv 1) pe_int (fun _ _ => rfl)) (pv 4))) pa_nil)))
      (C8.pss_cut (ps_if (PW.pt (pw_or (pt_cmpR op_ne (pe_ix ix_list (pe_ix ix_list (pv 2) pe_int (fun _ _ => rfl)) pe_int (fun _ _ => rfl)) pe_str (nomark _)) (pw_or1 (pt_cmpR op_ne (pe_ix ix_list (pe_ix ix_list (pv 2) pe_int (fun _ _ => rfl)) pe_int (fun _ _ => rfl)) pe_str (nomark _)))))
        (pss_one (ps_ret (pe_cmpR (op_eqD hr.units) (pe_slice sl_list (pe_ix ix_list (pv 2) pe_int (fun _ _ => rfl)) po_none (po_some pe_int)) (pe_slice sl_list (pe_ix ix_list (pv 2) pe_int (fun _ _ => rfl)) po_none (po_some pe_int)) (nomark _)))) pss_nil)
      (pss_one (ps_ret (pe_and (pe_cmpR (op_eqD hr.units) (pe_ix ix_list (pv 2) pe_int (fun _ _ => rfl)) (pe_ix ix_list (pv 2) pe_int (fun _ _ => rfl)) (nomark _))
        (pe_one (pe_cmpR (op_eqO R.te R.oe h1) (pe_op (op_mulX tM oM h8 passL) (pv 3) (pe_ix ix_list (pv 1) pe_int (fun _ _ => rfl))) (pe_op (op_mulX tM oM h8 passL) (pe_ix ix_list (pv 1) pe_int (fun _ _ => rfl)) (pv 4)) (nomark _))))))))), ?_⟩
    have two01 := Sml.of2 d0 d1
    have two12 := Sml.of2 d1 d2
    obtain ⟨c01, t01⟩ := two01.tab az
    obtain ⟨c12, t12⟩ := two12.tab az
    have e01 := two_let az d0 d1 t01
    have e12 := two_let az d1 d2 t12
    have k01 := chg_rok two01.ok t01 e01
    have k12 := chg_rok two12.ok t12 e12
    have sm3 : Sml z [r0, r1, r2] := Dl3.sml fun rs m => by
      simp only [List.mem_cons, List.mem_nil_iff, or_false] at m
      rcases m with rfl | rfl | rfl
      · exact d0
      · exact d1
      · exact d2
    have tl : TabS z [chg c01, r2] cs := TabS.congr (ov_of sm3.ok) (ov_of (ok_two k01 d2.rok)) (AlS.app (n := 40) (a := [r0, r1]) (a' := [chg c01]) (b := [r2]) t01.alike) tb
    have tr : TabS z [r0, chg c12] cs := TabS.congr (ov_of sm3.ok) (ov_of (ok_two d0.rok k12)) (AlS.behind (n := 40) (a := [r0]) (b := [r1, r2]) (b' := [chg c12]) (fun rs m => by rw [List.mem_singleton.mp m]; exact d0.rok.ok) t12.alike) tb
    have kcs : dueE cs = none → ROk z (chg cs) := fun e => chg_rok sm3.ok tb e
    obtain ⟨smc, dpc⟩ := res_sm az kcs
    have at3 : ∀ {u v t : V}, atI [u, v, t] 0 = some u ∧ atI [u, v, t] 1 = some v ∧ atI [u, v, t] 2 = some t := ⟨rfl, rfl, rfl⟩
    refine ⟨fun σ' H' => ∃ x y : Addr, σ' = [some (.str z), some (.ref L), none, some (.ref x), some (.ref y)] ∧ Tre R.C L a b c x y T z r0 r1 r2 c01 c12 H H', ?_, ?_⟩
    · refine ⟨_, rfl, L, _, _, .ref a, rfl, rfl, SqL.of hL, rfl, _, rfl, L, _, _, .ref b, rfl, rfl, SqL.of hL, rfl, mul_wish ra rb az d0.rok d1.rok t01 (fun e he => by rw [e01] at he; cases he) fun _ H1 x s1 nx rx => ?_⟩
      have hL1 := s1 _ _ hL
      refine ⟨_, rfl, L, _, _, .ref b, rfl, rfl, SqL.of hL1, rfl, _, rfl, L, _, _, .ref c, rfl, rfl, SqL.of hL1, rfl, mul_wish (rb.same s1) (rc.same s1) az d1.rok d2.rok t12 (fun e he => by rw [e12] at he; cases he) fun _ H2 y s2 ny ry => ?_⟩
      refine ⟨by show 2 ≤ sizeLine; decide, fun Tu hTu => ?_⟩
      have s3 : Same H2 (upd H2 Tu (.tup [.ref x, .ref y])) := (Same.refl H2).upd hTu
      refine ⟨Tu, _, rfl, SqT.of upd_same, rfl, _, _, rfl, _, _, rfl, rfl, ?_⟩
      have s13 := (s1.trans s2).trans s3
      exact ⟨x, y, rfl, .of s13, hT.ext s13, s13 _ _ hL, ra.same s13, rb.same s13, rc.same s13, rx.same (s2.trans s3), ry.same s3⟩
    rintro σ' H1 ⟨x, y, rfl, o1⟩
    refine ⟨fun σ' H' => ∃ M t0 : Addr, σ' = [some (.str z), some (.ref L), some (.ref M), some (.ref x), some (.ref y)] ∧ Tre R.C L a b c x y T z r0 r1 r2 c01 c12 H H' ∧ H' M = some (.lst [.ref t0]) ∧ ToldAt H' t0 cs ∧ ∀ o, H M = some o → ∃ ps, o = .tbl ps, ?_, ?_⟩
    · refine ⟨o1.tab, fun H2 e2 T2 => ?_⟩
      have o2 := o1.byE e2 T2
      refine told_of (z := z) (cs := cs) (fun E' R' H3 s3 kE kV => ?_) fun H3 t0 s3 n0 told => ?_
      · have o3 := o2.same s3
        refine ⟨_, rfl, _, rfl, L, _, _, .ref c, rfl, rfl, SqL.of o3.hL, rfl, mul_wish o3.rx o3.rc az k01 d2.rok tl kE fun he H4 u s4 nu ru => kV he H4 u s4 nu ru⟩
      · refine ⟨by show 1 ≤ sizeLine; decide, fun M hM => ?_⟩
        have o3 := o2.same s3
        have s4 : Same H3 (upd H3 M (.lst [.ref t0])) := (Same.refl H3).upd hM
        exact ⟨M, t0, rfl, o3.same s4, upd_same, told.same s4, ext_none o3.ext hM⟩
    rintro σ' H2 ⟨M, t0, rfl, o2, gM, told0, nM⟩
    refine ⟨fun σ' H' => ∃ t1 : Addr, σ' = [some (.str z), some (.ref L), some (.ref M), some (.ref x), some (.ref y)] ∧ Tre R.C L a b c x y T z r0 r1 r2 c01 c12 H H' ∧ H' M = some (.lst [.ref t0, .ref t1]) ∧ ToldAt H' t0 cs ∧ ToldAt H' t1 cs, ?_, ?_⟩
    · refine ⟨_, rfl, .inl ⟨rfl, _, SqL.of gM⟩, o2.tab, fun H3 e3 T3 => ?_⟩
      have o3 := o2.byE e3 T3
      have gM3 := e3 _ _ gM not_tbl_l
      have told3 := told0.ext e3
      refine told_of (z := z) (cs := cs) (fun E' R' H4 s4 kE kV => ?_) fun H4 t1 s4 n1 told1 => ?_
      · have o4 := o3.same s4
        refine ⟨_, rfl, L, _, _, .ref a, rfl, rfl, SqL.of o4.hL, rfl, _, rfl, mul_wish o4.ra o4.ry az d0.rok k12 tr kE fun he H5 u s5 nu ru => kV he H5 u s5 nu ru⟩
      · have o4 := o3.same s4
        have gM4 := s4 _ _ gM3
        have told4 := told3.same s4
        obtain ⟨w0, l0, g0⟩ := told_lst told4
        refine ⟨M, _, _, rfl, rfl, gM4, (show 1 < sizeLine from by decide), t1, rfl, ⟨extN_at o4.ext nM, tabs_updL o4.tab gM4, ?_, relay_updT o4.ra gM4 g0, relay_updT o4.rb gM4 g0, relay_updT o4.rc gM4 g0, relay_updT o4.rx gM4 g0, relay_updT o4.ry gM4 g0⟩, upd_same, told_updM told4 gM4 g0, told_updM told1 gM4 g0⟩
        have nLM : L ≠ M := fun z => by
          obtain ⟨ps, e⟩ := nM _ (by rw [← z]; exact hL)
          cases e
        rw [upd_ne nLM]
        exact o4.hL
    rintro σ' H3 ⟨t1, rfl, o3, gM3, tA, tB⟩
    have toA := tA
    have toB := tB
    unfold ToldAt at tA tB
    refine ⟨fun σ' H' => σ' = [some (.str z), some (.ref L), some (.ref M), some (.ref x), some (.ref y)] ∧ H' = H3 ∧ dueE cs = none, ?_, ?_⟩
    · cases e : dueE cs with
      | some q =>
        rw [e] at tA tB
        have nw : ¬ (V.str q.1 = V.str (Str.ofString "rules")) := strV_ne (by rcases dueE_is e with rfl | rfl <;> decide +kernel)
        refine ⟨_, rfl, M, _, _, .ref t0, rfl, rfl, SqL.of gM3, rfl, t0, _, _, .str q.1, rfl, rfl, SqL.of tA, rfl, rfl, _, rfl, ?_⟩
        rw [decide_eq_false nw]
        refine iteT ?_
        refine iteT ?_
        refine ⟨_, rfl, M, _, _, .ref t0, rfl, rfl, SqL.of gM3, rfl, _, rfl, t0, _, rfl, SqL.of tA, fun u hu => ?_⟩
        have s4 : Same H3 (upd H3 u (.lst (cutV [.str q.1, .int q.2, .bl true] none (some 1)))) := (Same.refl H3).upd hu
        refine ⟨_, rfl, M, _, _, .ref t1, rfl, rfl, SqL.of (s4 _ _ gM3), rfl, _, rfl, t1, _, rfl, SqL.of (s4 _ _ tB), fun v hv => ?_⟩
        have s5 := s4.upd (o := .lst (cutV [.str q.1, .int q.2, .bl true] none (some 1))) (s4.none hv)
        have g1 : upd (upd H3 u (.lst (cutV [.str q.1, .int q.2, .bl true] none (some 1)))) v (.lst (cutV [.str q.1, .int q.2, .bl true] none (some 1))) u = some (.lst [.str q.1]) := by
          rw [upd_ne (ne_of_none upd_same hv), upd_same]
          rfl
        have pl := word_plain (w := q.1) (by rcases dueE_is e with rfl | rfl; exact .inl rfl; exact .inr (.inl rfl))
        have sm1 := Sm.list (k := 0) (SmL.cons ((Sm.str pl.1).mono (show _ ≤ 52 by have := pl.2; omega)) (Nat.le_refl _) SmL.nil) (by decide)
        refine ⟨.list [.str q.1], .list [.str q.1], .lst (SqL.of g1) (.cons (.str _) .nil), .lst (SqL.of upd_same) (.cons (.str _) .nil), sm1.shaped, sm1.shaped, ?_⟩
        show Q (.bl (PyData.eqv _ _)) _
        rw [eqv_own sm1]
        exact k _ (o3.ext.trans (.of s5)) (o3.tab.ext s5)
      | none =>
        rw [e] at tA tB
        obtain ⟨A, xs, gA, _⟩ := tA
        obtain ⟨B, ys, gB, _⟩ := tB
        refine ⟨_, rfl, M, _, _, .ref t0, rfl, rfl, SqL.of gM3, rfl, t0, _, _, .str (Str.ofString "rules"), rfl, rfl, SqL.of gA, rfl, rfl, _, rfl, ?_⟩
        rw [decide_eq_true (rfl : V.str (Str.ofString "rules") = V.str (Str.ofString "rules"))]
        refine iteF ?_
        refine ⟨_, rfl, M, _, _, .ref t1, rfl, rfl, SqL.of gM3, rfl, t1, _, _, .str (Str.ofString "rules"), rfl, rfl, SqL.of gB, rfl, rfl, _, rfl, ?_⟩
        rw [decide_eq_true (rfl : V.str (Str.ofString "rules") = V.str (Str.ofString "rules"))]
        refine iteF ?_
        exact ⟨rfl, rfl, rfl⟩
    rintro σ' H4 ⟨rfl, rfl, e⟩
    refine ⟨_, rfl, M, _, _, .ref t0, rfl, rfl, SqL.of gM3, rfl, _, rfl, M, _, _, .ref t1, rfl, rfl, SqL.of gM3, rfl, resD cs, resD cs, toA.dp, toB.dp, smc.shaped, smc.shaped, ?_⟩
    rw [eqv_own smc]
    refine ⟨_, rfl, iteT ?_⟩
    refine ⟨_, rfl, _, rfl, L, _, _, .ref c, rfl, rfl, SqL.of o3.hL, rfl, mul_wish o3.rx o3.rc az k01 d2.rok tl (fun e' he => by rw [e] at he; cases he) fun _ H5 u s5 nu ru => ?_⟩
    have o5 := o3.same s5
    refine ⟨_, rfl, L, _, _, .ref a, rfl, rfl, SqL.of o5.hL, rfl, _, rfl, mul_wish o5.ra o5.ry az d0.rok k12 tr (fun e' he => by rw [e] at he; cases he) fun _ H6 v s6 nv rv => ?_⟩
    have o6 := o5.same s6
    have ru6 := ru.same s6
    obtain ⟨du, fu, eu, _⟩ := ru6.ins
    obtain ⟨dv, fv, ev, _⟩ := rv.ins
    have rp : RP 40 (chg cs) := fun r hr => ⟨az.plain ((kcs e).ok r hr).o1, az.plain ((kcs e).ok r hr).n1, ((kcs e).ok r hr).o2, ((kcs e).ok r hr).n2⟩
    refine ⟨u, du, fu, rfl, eu, .inr ⟨v, dv, fv, rfl, ev⟩, u, z, chg cs, 40, .ref v, rfl, ru6, rp, .inr ⟨v, chg cs, rfl, rv, rp, rsEq (chg cs) (chg cs), rfl, ?_⟩⟩
    rw [rsEq_self]
    exact k _ o6.ext o6.tab
end
end K23
namespace K23
open PySem PySem.Spec PyProof.Rows L2 FL
open LamX
/-! ### the class's further methods; _law_two_right -/
structure RelP (P : Program) (w : World) (K : PySem.W.Frag) (mg : Str → Option Value) (base : Heap) (R : RelF P w K mg base) (CT : Addr) where
  fm : Addr
  dm : FuncData
  tm : MulT K R.C fm dm
  om : FnOk P w K mg base (L2.CX P w) 8 fm dm ["self", "other"] (spMulX R.C CT)
  fa : Addr
  da : FuncData
  ma : Meth K R.C "is_alike" fa
  oa : FnOk P w K mg base CX0 8 fa da ["self", "other"] (spAlike R.C)
  ba : Binds K da ["self", "other"] []
  fp : Addr
  dp : FuncData
  mp : Meth K R.C "power" fp
  op : FnOk P w K mg base (L2.CX P w) 9 fp dp ["self", "times"] (spPowX R.C CT)
  bp : Binds K dp ["self", "times"] []
  kp : KBn K dp ["self", "times"] 1 ["times"] (fun us ws => us ++ ws) (fun vs zs => vs ++ zs)
theorem methP_no : (¬ (Str.ofString "is_alike") = Str.ofString "_index" ∧ ¬ (Str.ofString "is_alike") = Str.ofString "_rules" ∧ ¬ (Str.ofString "is_alike") = Str.ofString "_signs") ∧
    (¬ (Str.ofString "power") = Str.ofString "_index" ∧ ¬ (Str.ofString "power") = Str.ofString "_rules" ∧ ¬ (Str.ofString "power") = Str.ofString "_signs") := by decide +kernel
theorem relay_byX {C p q : Addr} {H H' : Hp} {z : Str} {rs : List Rule} (hp : PotAt H p) (b : ByX p H H') (h : RelayAt C H q z rs) : RelayAt C H' q z rs := by
  obtain ⟨dx, ra, ia, xs, h1, h2, h3, kvs, h4, h5, h6⟩ := h
  obtain ⟨_, _, e, _⟩ := id hp
  have n : ∀ {c : Addr} {o : HO}, H c = some o → (∀ l, o ≠ .lst l) → c ≠ p := fun {c o} ec no q' => by
    rw [q', e] at ec
    exact no _ (Option.some.inj ec).symm
  refine ⟨dx, ra, ia, xs, b _ _ h1 (n h1 fun l z => by cases z) (fun _ z => by cases z), b _ _ h2 (fun q' => ?_) not_tbl_l, rules_byX hp b h3, kvs, b _ _ h4 (n h4 fun l z => by cases z) (fun _ z => by cases z), h5, h6.imp fun t a g => b _ _ g (n g fun l z => by cases z) not_tbl_t⟩
  exact pot_list hp (by rw [← q']; exact h2) h3
theorem lst_byX {p L : Addr} {H H' : Hp} {xs : List V} {a : Addr} (hp : PotAt H p) (b : ByX p H H') (h : H L = some (.lst xs)) (m : .ref a ∈ xs) : H' L = some (.lst xs) := b _ _ h (fun q => by
  obtain ⟨u, v, e, _⟩ := hp
  rw [q, e] at h
  cases h
  simp at m) not_tbl_l
theorem byX_updF {p L : Addr} {Hm H' : Hp} {o : HO} (b : ByX p Hm H') (n : Hm L = none) : ByX p Hm (upd H' L o) := fun c u e hc ht => by
  rw [upd_ne (ne_of_none e n)]
  exact b c u e hc ht
/-- where one stands -/
structure Two (C p D1 D2 L a b : Addr) (T : List (Addr × Str)) (z : Str) (r1 r2 : List Rule) (xs1 xs2 : List V) (H0 H : Hp) : Prop where
  pot : PotAt H p
  tab : Tabs T H
  by_ : ByX p H0 H
  h1 : H D1 = some (.lst xs1)
  q1 : RulesAt H xs1 r1
  h2 : H D2 = some (.lst xs2)
  q2 : RulesAt H xs2 r2
  hL : H L = some (.lst [.ref a, .ref b])
  ra : RelayAt C H a z r1
  rb : RelayAt C H b z r2
section
variable {C p D1 D2 L a b : Addr} {T : List (Addr × Str)} {z : Str} {r1 r2 : List Rule} {xs1 xs2 : List V} {H0 H H' : Hp}
theorem Two.byX (o : Two C p D1 D2 L a b T z r1 r2 xs1 xs2 H0 H) (hp : PotAt H' p) (t : Tabs T H') (y : ByX p H H') : Two C p D1 D2 L a b T z r1 r2 xs1 xs2 H0 H' :=
  ⟨hp, t, o.by_.trans y, y _ _ o.h1 (fun e => pot_list o.pot (by rw [← e]; exact o.h1) o.q1) not_tbl_l, rules_byX o.pot y o.q1, y _ _ o.h2 (fun e => pot_list o.pot (by rw [← e]; exact o.h2) o.q2) not_tbl_l, rules_byX o.pot y o.q2,
    lst_byX o.pot y o.hL List.mem_cons_self, relay_byX o.pot y o.ra, relay_byX o.pot y o.rb⟩
theorem Two.same (o : Two C p D1 D2 L a b T z r1 r2 xs1 xs2 H0 H) (s : Same H H') : Two C p D1 D2 L a b T z r1 r2 xs1 xs2 H0 H' := o.byX (FL.Same.pot s o.pot) (o.tab.ext s) (.same s)
theorem Two.ext (o : Two C p D1 D2 L a b T z r1 r2 xs1 xs2 H0 H) (e : ExtN H H') (t : Tabs T H') : Two C p D1 D2 L a b T z r1 r2 xs1 xs2 H0 H' := o.byX (pot_extN o.pot e) t (.ext e)
theorem Two.but (o : Two C p D1 D2 L a b T z r1 r2 xs1 xs2 H0 H) (hp : PotAt H' p) (y : But p H H') : Two C p D1 D2 L a b T z r1 r2 xs1 xs2 H0 H' := o.byX hp (tabs_butX o.tab o.pot y) (.but y)
end
theorem stg_two {K : PySem.W.Frag} {H : Hp} {S D1 D2 : Addr} {xs1 xs2 : List V} {z : Str} {rs1 rs2 : List Rule} (g : H S = some (.lst [.ref D1, .ref D2])) (h1 : H D1 = some (.lst xs1)) (r1 : RulesAt H xs1 rs1) (h2 : H D2 = some (.lst xs2)) (r2 : RulesAt H xs2 rs2) (d1 : Dl3 z rs1) (d2 : Dl3 z rs2) : Stg K H S [rs1, rs2] := by
  refine ⟨⟨[D1, D2], SqL.of g, .cons ⟨xs1, SqL.of h1, r1⟩ (.cons ⟨xs2, SqL.of h2, r2⟩ .nil)⟩, Nat.le_of_ble_eq_true rfl, fun r hr q hq => ?_⟩
  have o : RuleOk z 4 q := by
    rcases List.mem_cons.mp hr with rfl | hr
    · exact d1.ok q hq
    · rw [List.mem_singleton.mp hr] at hq
      exact d2.ok q hq
  exact ⟨Nat.le_trans o.o2 (by decide), Nat.le_trans o.n2 (by decide)⟩
theorem thr_two (r1 r2 : List Rule) (y : Str) : thr [r1, r2] y = turn r2 (turn r1 y) := rfl
theorem thr_one (r1 : List Rule) (y : Str) : thr [r1] y = turn r1 y := rfl
theorem sm_pair {z : Str} {u : Str} (az : Abc z) (ou : Over z u) (l : u.length ≤ 1000) : Sm 100000 (.list [.str u, .str u]) :=
  (Sm.list (k := 0) (SmL.cons (Sm.str (az.plain ou)) (Nat.le_refl _) (SmL.cons (Sm.str (az.plain ou)) (Nat.le_refl _) SmL.nil)) (by decide)).mono (by omega)
abbrev sTwo2 : Stmt := topS 67
abbrev nTwo2 : List Str := ["_law_pot_here", "_law_abc_here", "_law_first", "_law_second", "_law_plans", "_law_told", "_law_due_here", "_law_both", "_law_few", "_law_note_here", "_law_turn_here", "_law_kind", "_law_old", "_law_new"]
theorem scTwo2 : FnScope nTwo2 ["_law_pot_here", "_law_abc_here", "_law_first", "_law_second", "_law_plans"] (defScope sTwo2) := ⟨rfl, rfl, rfl, by decide +kernel, rfl, by decide +kernel, by decide +kernel⟩
abbrev twoQ : Str := ((Str.ofString "_law_two_right") ++ (Str.ofString ".<locals>.")) ++ (Str.ofString "<lambda>")
def spTwo2 (C : Addr) (T : List (Addr × Str)) : Sp := fun vs H Q _ => ∃ (p D1 D2 L a b : Addr) (z : Str) (r1 r2 : List Rule) (xs1 xs2 : List V), vs = [.ref p, .str z, .ref D1, .ref D2, .ref L] ∧ Abc z ∧ Dl3 z r1 ∧ Dl3 z r2 ∧ Two C p D1 D2 L a b T z r1 r2 xs1 xs2 H H ∧
  ∀ H', PotAt H' p → Tabs T H' → ByX p H H' → Q (.bl true) H'
section
variable {P : Program} {w : World} {K : PySem.W.Frag} {mg : Str → Option Value} {base : Heap}
theorem ok_two2 {f g c0 P0 CT CB : Addr} {fd gd : FuncData} {T : List (Addr × Str)} (F : Fun K "_law_two_right" "_law_two_right" sTwo2 f fd) (hcd : fd.code = .ref c0) (LT : LamT T base mg c0 P0 twoQ) (R : RelF P w K mg base) (G : RelP P w K mg base R CT)
    (FH : Fun K "_law_heard" "_law_heard" sHeard g gd) (bH : L2.Binds K gd ["_law_deed"] []) (mH : mg "_law_heard" = some (.ref g)) (Te : ErH K mg CT CB) (mI : mg "isinstance" = none) (mA : mg "ArithmeticError" = none) (mR : mg "repr" = none) (mG : mg "range" = none)
    (cU : Ca P w K mg base "_law_due" 4 ["_law_abc_here", "_law_stages"] (spDue K)) (cN : Ca P w K mg base "_law_notes" 1 ["_law_abc_here", "_law_most"] spNotesX) (cO : Ca P w K mg base "_law_note" 3 ["_law_pot_here", "_law_abc_here", "_law_most"] spNote)
    (cT : Ca P w K mg base "_law_through" 2 ["_law_stages", "_law_note_here"] (spThr K)) :
    FnG P w K mg base CX0 11 f fd ["_law_pot_here", "_law_abc_here", "_law_first", "_law_second", "_law_plans"] (spTwo2 R.C T) := by
  refine okGC F hcd scTwo2 (fun vs H Q E h => ?_) (fun A outer s H vs Q E hr hg h => ?_)
  · obtain ⟨_, _, _, _, _, _, _, _, _, _, _, rfl, _⟩ := h
    rfl
  · obtain ⟨p, D1, D2, L, a, b, z, r1, r2, xs1, xs2, rfl, az, d1, d2, o, k⟩ := h
    have nd := scTwo2.nd
    have sz : sizeLine = 16777216 := rfl
    have h8 := hr.mono (show 8 ≤ 10 by decide)
    have h6 := hr.mono (show 6 ≤ 10 by decide)
    have h4 := hr.mono (show 4 ≤ 10 by decide)
    have h3 := hr.mono (show 3 ≤ 10 by decide)
    have h2 := hr.mono (show 2 ≤ 10 by decide)
    have h1 := hr.mono (show 1 ≤ 10 by decide)
    refine ⟨_, C8.pss_cut (ps_par (i := 5) (j := 6) (by rfl) nd rfl rfl (by decide) rfl rfl (pa_cons (pe_heard R FH bH (by rfl) mH Te (k := 8) hr mI mA LT (by rfl) (lamS_by (by show lamSB (defScope sTwo2) _ = true; decide +kernel)) (by rfl) (by intro _ _ _ _ _; rfl) (fun A' o' s' H' E' f' c' hr' => pe_op (op_mulX (E := E') G.tm G.om hr' pass_lamX) (pe_ix (ix_listK (K := K) rfl) (pv 4) pe_int (fun _ _ => rfl)) (pe_ix (ix_listK (K := K) rfl) (pv 4) pe_int (fun _ _ => rfl))))
          (pa_cons (pe_ca cU h4 (by rfl) (pa_cons (pv 1) (pa_cons (pe_lst (pa_cons (pv 2) (pa_cons (pv 3) pa_nil))) pa_nil))) pa_nil)) (by rfl))
      (C8.pss_cut (ps_if (PW.pt (pw_or (pt_cmpR op_ne (pe_callB (call_repr hg hr.units) (by rfl) mR (by decide +kernel) (pa_cons (pv 5) pa_nil)) (pe_callB (call_repr hg hr.units) (by rfl) mR (by decide +kernel) (pa_cons (pv 6) pa_nil)) (nomark _))
          (pw_or1 (pt_cmpR op_ne (pe_ix ix_list (pv 5) pe_int (fun _ _ => rfl)) pe_str (nomark _)))))
        (pss_one (ps_ret (pe_cmpR op_eq (pe_callB (call_repr hg hr.units) (by rfl) mR (by decide +kernel) (pa_cons (pv 5) pa_nil)) (pe_callB (call_repr hg hr.units) (by rfl) mR (by decide +kernel) (pa_cons (pv 6) pa_nil)) (nomark _)))) pss_nil)
      (C8.pss_cut (ps_set (i := 7) nd rfl (.inl rfl) (pe_op (op_mulX G.tm G.om h8 passL) (pe_ix ix_list (pv 4) pe_int (fun _ _ => rfl)) (pe_ix ix_list (pv 4) pe_int (fun _ _ => rfl))))
      (C8.pss_cut (ps_set (i := 8) nd rfl (.inl rfl) (pe_op op_cat (pe_ca cN h1 (by rfl) (pa_cons (pv 1) (pa_cons pe_int pa_nil)))
        (pe_lc (own := [("_law_turn_here", 10)]) (g := gName 10) (tt := tYes) (te := tCall spNote [] E0 (tCons (tVar 0) (tCons (tVar 1) (tCons (tC (.int 16)) tNil)))) rfl nd (pi_range1 (by rfl) mG (pa_cons pe_int pa_nil))
          (blkOk_by (N := nTwo2) (sc := defScope sTwo2) (by decide +kernel)) (fun _ _ _ _ _ => pg_name (i := 10) nd rfl (Or.inl rfl)) (fun _ _ _ _ _ => pts_nil)
          (fun _ _ _ _ _ => pe_ca cO h3 (by rfl) (pa_cons (pv 0) (pa_cons (pv 1) (pa_cons pe_int pa_nil)))))))
      (C8.pss_cut (ps_expr (pe_bm PySem.F.plainAttrs_list PySem.F.slot_list_extend PySem.F.type_list_extend mtExtend (pv 8) (pa_cons
        (pe_lc (own := [("_law_kind", 11), ("_law_old", 12), ("_law_new", 13)]) (g := gTup K 3 (gCons (gName 11) (gCons (gName 12) (gCons (gName 13) gNil)))) (tt := tYes) rfl nd (pi_list (pe_op op_cat (pv 2) (pv 3)))
          (blkOk_by (N := nTwo2) (sc := defScope sTwo2) (by decide +kernel))
          (fun _ _ _ _ _ => pg_tup rfl (pgs_cons (pg_name (i := 11) nd rfl (Or.inl rfl)) (pgs_cons (pg_name (i := 12) nd rfl (Or.inl rfl)) (pgs_cons (pg_name (i := 13) nd rfl (Or.inl rfl)) pgs_nil))))
          (fun _ _ _ _ _ => pts_nil) (fun _ _ _ _ _ => pe_op op_add_str (pv 12) (pe_ca cO h3 (by rfl) (pa_cons (pv 0) (pa_cons (pv 1) (pa_cons pe_int pa_nil)))))) pa_nil)))
      (C8.pss_cut (ps_for PassesOwn.never rfl (pi_list (pv 8)) (pg_name (i := 9) nd rfl (.inl rfl))
        (pss_cons (ps_set (i := 5) nd rfl (.inl rfl) (pe_lst (pa_cons (pe_callP (pv 7) R.cc R.oc R.bc h3 (pa_cons (pv 9) pa_nil)) (pa_cons (pe_callP (pe_ix ix_list (pv 4) pe_int (fun _ _ => rfl)) R.cc R.oc R.bc h3 (pa_cons (pe_callP (pe_ix ix_list (pv 4) pe_int (fun _ _ => rfl)) R.cc R.oc R.bc h3 (pa_cons (pv 9) pa_nil)) pa_nil)) pa_nil))))
        (pss_one (ps_if (pt_cmpR (op_neD hr.units) (pv 5) (pe_op op_rep (pe_lst (pa_cons (pe_ca cT h2 (by rfl) (pa_cons (pe_lst (pa_cons (pv 2) (pa_cons (pv 3) pa_nil))) (pa_cons (pv 9) pa_nil))) pa_nil)) pe_int) (nomark _)) (pss_one (ps_ret pe_bl)) pss_nil))))
      (C8.pss_cut (ps_if (PW.pt (pw_or (pt_cmpR (op_neO R.te R.oe h3) (pv 7) (pe_op (op_mulX G.tm G.om h8 passL) (pe_ix ix_list (pv 4) pe_int (fun _ _ => rfl)) (pe_ix ix_list (pv 4) pe_int (fun _ _ => rfl))) (nomark _))
          (pw_or1 (pt_cmpR op_ne (pe_prop (pv 7) R.T.cl R.pr R.og h2 R.bg .nil pass0 rfl) (pv 1) (nomark _))))) (pss_one (ps_ret pe_bl)) pss_nil)
      (pss_one (ps_ret (pe_meth (pv 7) R.T.cl G.ma G.oa h8 G.ba .nil pass0 (pa_cons (pe_make R.mkc R.oi h6 (by rfl) R.T.mgC R.bi .nil pass0 (pa_cons (pv 1) (pa_cons (pe_meth0 (pv 7) R.T.cl R.mr R.or_ h1 R.br .nil pass0) pa_nil))) pa_nil)))))))))), ?_⟩
    have lo := az.lo
    have hi := az.hi
    obtain ⟨n1, n2, n3⟩ := rules_no
    obtain ⟨⟨m1, m2, m3⟩, _⟩ := methP_no
    have sm := Sml.of2 d1 d2
    obtain ⟨cs, tb⟩ := sm.tab az
    have kcs : dueE cs = none → ROk z (chg cs) := fun e => chg_rok sm.ok tb e
    obtain ⟨smc, dpc⟩ := res_sm az kcs
    have lr1 : ∀ r ∈ r1, r.old.length ≤ 40 ∧ r.new.length ≤ 1000 := ok_lens d1.rok.ok
    have lr2 : ∀ r ∈ r2, r.old.length ≤ 40 ∧ r.new.length ≤ 1000 := ok_lens d2.rok.ok
    refine ⟨fun σ' H' => ∃ t u : Addr, σ' = [some (.ref p), some (.str z), some (.ref D1), some (.ref D2), some (.ref L), some (.ref t), some (.ref u), none, none, none, none, none, none, none] ∧ Two R.C p D1 D2 L a b T z r1 r2 xs1 xs2 H H' ∧ ToldAt H' t cs ∧ ToldAt H' u cs, ?_, ?_⟩
    · refine ⟨o.tab, fun H2 e2 T2 => ?_⟩
      have o2 := o.ext e2 T2
      refine told_of (z := z) (cs := cs) (fun E' R' H3 s3 kE kV => ?_) fun H3 t s3 nt told => ?_
      · have o3 := o2.same s3
        refine ⟨_, rfl, L, _, _, .ref a, rfl, rfl, SqL.of o3.hL, rfl, _, rfl, L, _, _, .ref b, rfl, rfl, SqL.of o3.hL, rfl, mul_wish o3.ra o3.rb az d1.rok d2.rok tb kE fun he H4 u s4 nu ru => kV he H4 u s4 nu ru⟩
      · have o3 := o2.same s3
        refine ⟨_, rfl, _, rfl, _, rfl, (by show 2 ≤ sizeLine; decide), fun S hS => ?_⟩
        have s4 : Same H3 (upd H3 S (.lst [.ref D1, .ref D2])) := (Same.refl H3).upd hS
        have gS : upd H3 S (.lst [.ref D1, .ref D2]) S = some (.lst [.ref D1, .ref D2]) := upd_same
        generalize upd H3 S (.lst [.ref D1, .ref D2]) = H4 at s4 gS ⊢
        have o4 := o3.same s4
        refine ⟨z, S, [r1, r2], cs, rfl, az, stg_two gS o4.h1 o4.q1 o4.h2 o4.q2 d1 d2, sm, tb, fun H5 u s5 nu tu => ?_⟩
        exact ⟨_, _, rfl, t, u, rfl, o4.same s5, told.same (s4.trans s5), tu⟩
    rintro σ' H1 ⟨t, u, rfl, o1, tA, tB⟩
    refine ⟨fun σ' H' => σ' = [some (.ref p), some (.str z), some (.ref D1), some (.ref D2), some (.ref L), some (.ref t), some (.ref u), none, none, none, none, none, none, none] ∧ H' = H1 ∧ dueE cs = none, ?_, ?_⟩
    · have dA := tA.dp (K := K)
      have dB := tB.dp (K := K)
      refine ⟨_, rfl, .ref t, resD cs, rfl, .inl ⟨dA, smc.nd⟩, smc.nice (by decide), ?_⟩
      refine ⟨_, rfl, .ref u, resD cs, rfl, .inl ⟨dB, smc.nd⟩, smc.nice (by decide), rfl, _, rfl, ?_⟩
      refine iteNS rfl ?_
      unfold ToldAt at tA
      cases e : dueE cs with
      | some q =>
        rw [e] at tA
        have nw : ¬ (V.str q.1 = V.str (Str.ofString "rules")) := strV_ne (by rcases dueE_is e with rfl | rfl <;> decide +kernel)
        refine ⟨_, rfl, t, _, _, .str q.1, rfl, rfl, SqL.of tA, rfl, rfl, _, rfl, ?_⟩
        rw [decide_eq_false nw]
        refine iteT ?_
        refine ⟨_, rfl, .ref t, resD cs, rfl, .inl ⟨dA, smc.nd⟩, smc.nice (by decide), ?_⟩
        refine ⟨_, rfl, .ref u, resD cs, rfl, .inl ⟨dB, smc.nd⟩, smc.nice (by decide), rfl, ?_⟩
        rw [decide_eq_true (rfl : V.str ((resD cs).shown) = _)]
        exact k _ o1.pot o1.tab o1.by_
      | none =>
        rw [e] at tA
        obtain ⟨A, xs, gA, _⟩ := tA
        refine ⟨_, rfl, t, _, _, .str (Str.ofString "rules"), rfl, rfl, SqL.of gA, rfl, rfl, _, rfl, ?_⟩
        rw [decide_eq_true (rfl : V.str (Str.ofString "rules") = V.str (Str.ofString "rules"))]
        refine iteF ?_
        exact ⟨rfl, rfl, rfl⟩
    clear tA tB
    rintro σ' H2 ⟨rfl, rfl, e⟩
    have krs := kcs e
    have rp : RP 40 (chg cs) := fun r hr => ⟨az.plain (krs.ok r hr).o1, az.plain (krs.ok r hr).n1, (krs.ok r hr).o2, (krs.ok r hr).n2⟩
    have lrc : ∀ r ∈ chg cs, r.old.length ≤ 40 ∧ r.new.length ≤ 1000 := ok_lens krs.ok
    have same_y : ∀ y, Over z y → turn r2 (turn r1 y) = turn (chg cs) y := fun y oy => by
      have := TabS.alike tb y oy
      rw [thr_two, thr_one] at this
      exact this
    refine ⟨fun σ' H' => ∃ x : Addr, σ' = [some (.ref p), some (.str z), some (.ref D1), some (.ref D2), some (.ref L), some (.ref t), some (.ref u), some (.ref x), none, none, none, none, none, none] ∧ Two R.C p D1 D2 L a b T z r1 r2 xs1 xs2 H H' ∧ RelayAt R.C H' x z (chg cs), ?_, ?_⟩
    · refine ⟨_, rfl, L, _, _, .ref a, rfl, rfl, SqL.of o1.hL, rfl, _, rfl, L, _, _, .ref b, rfl, rfl, SqL.of o1.hL, rfl, mul_wish o1.ra o1.rb az d1.rok d2.rok tb (fun e' he => by rw [e] at he; cases he) fun _ H3 x s3 nx rx => ?_⟩
      exact ⟨x, rfl, o1.same s3, rx⟩
    clear o1
    rintro σ' H3 ⟨x, rfl, o3, rx⟩
    refine ⟨fun σ' H' => ∃ (Hb : Hp) (Fw : Addr) (fs : List Str), σ' = [some (.ref p), some (.str z), some (.ref D1), some (.ref D2), some (.ref L), some (.ref t), some (.ref u), some (.ref x), some (.ref Fw), none, none, none, none, none] ∧ Two R.C p D1 D2 L a b T z r1 r2 xs1 xs2 H Hb ∧ RelayAt R.C Hb x z (chg cs) ∧ Hb Fw = none ∧ Same Hb H' ∧ H' Fw = some (.lst (fs.map V.str)) ∧ (∀ y ∈ fs, Over z y ∧ y.length ≤ 20) ∧ fs.length ≤ 4000000, ?_, ?_⟩
    · refine ⟨_, rfl, z, 3, rfl, by omega, hi, by decide, by decide, fun La H4 nLa gLa lLa s4 => ?_⟩
      have o4 := o3.same s4
      have rx4 := rx.same s4
      have npL : p ≠ La := o3.pot.ne nLa
      refine ⟨6, rfl, by decide, by decide, fun Cc hC => ?_⟩
      have npC : p ≠ Cc := o4.pot.ne hC
      have nLC : La ≠ Cc := ne_of_none gLa hC
      refine lc_range (lo := 0) (n := 6) (fun j Hj => PotAt Hj p ∧ But p H4 Hj ∧ ∃ ys : List Str, Hj Cc = some (.lst (ys.map V.str)) ∧ ys.length = j ∧ ∀ y ∈ ys, Over z y ∧ y.length ≤ 20) ?_ ?_ ?_
      · exact ⟨o4.pot.upd npC, (But.refl p H4).upd hC, [], upd_same, rfl, fun _ h => nomatch h⟩
      · rintro j Hj hj ⟨hpj, bj, ys, gC, ly, oky⟩
        refine ⟨rfl, _, rfl, _, rfl, p, z, 16, rfl, hpj, by omega, by omega, by decide, by decide, fun y H5 oy ly2 hp5 b5 => ?_⟩
        refine ⟨ys.map V.str, b5 _ _ gC (Ne.symm npC), (by rw [List.length_map, sz]; omega), hp5.upd npC, (bj.trans b5).upd hC, ys ++ [y], by rw [upd_same, List.map_append]; rfl, by rw [List.length_append, ly]; rfl, fun v hv => ?_⟩
        rcases List.mem_append.mp hv with h | h
        · exact oky v h
        · rw [List.mem_singleton.mp h]
          exact ⟨oy, by omega⟩
      · rintro Hd ⟨hpd, bd, ys, gC, ly, oky⟩
        have od := o4.but hpd bd
        have rd := RelayAt.but rx4 o4.pot bd
        have gLd := bd _ _ gLa (Ne.symm npL)
        refine ⟨La, Cc, _, _, rfl, rfl, gLd, gC, (by rw [List.length_map, List.length_map, sz]; omega), fun Fw hFw => ?_⟩
        refine ⟨Hd, Fw, notesL z (3 : Int).toNat ++ ys, rfl, od, rd, hFw, (Same.refl Hd).upd hFw, by rw [upd_same, List.map_append], fun y hy => ?_, by rw [List.length_append]; omega⟩
        rcases List.mem_append.mp hy with h | h
        · obtain ⟨o, l⟩ := mem_notes.mp h
          exact ⟨o, Nat.le_trans l (by decide)⟩
        · exact oky y h
    clear o3 rx
    rintro σ' H5 ⟨Hb, Fw, fs, rfl, o5, rx5, nF, sB, gF, okf, lf⟩
    have npF : p ≠ Fw := o5.pot.ne nF
    refine ⟨fun σ' H' => ∃ (gs : List Str), σ' = [some (.ref p), some (.str z), some (.ref D1), some (.ref D2), some (.ref L), some (.ref t), some (.ref u), some (.ref x), some (.ref Fw), none, none, none, none, none] ∧ Two R.C p D1 D2 L a b T z r1 r2 xs1 xs2 H H' ∧ RelayAt R.C H' x z (chg cs) ∧ H' Fw = some (.lst (gs.map V.str)) ∧ (∀ y ∈ gs, Over z y ∧ y.length ≤ 20), ?_, ?_⟩
    · have o6 := o5.same sB
      have f1 := d1.few
      have f2 := d2.few
      have l1 := paired_len o6.q1
      have l2 := paired_len o6.q2
      refine ⟨_, rfl, .inl ⟨rfl, _, SqL.of gF⟩, ?_⟩
      refine ⟨_, rfl, _, rfl, D1, D2, xs1, xs2, rfl, rfl, o6.h1, o6.h2, (by rw [sz]; omega), fun M hM => ?_⟩
      have sM : Same H5 (upd H5 M (.lst (xs1 ++ xs2))) := (Same.refl H5).upd hM
      have gM : upd H5 M (.lst (xs1 ++ xs2)) M = some (.lst (xs1 ++ xs2)) := upd_same
      have npM : p ≠ M := o6.pot.ne hM
      have gF6 := sM _ _ gF
      have o7 := o6.same sM
      generalize upd H5 M (.lst (xs1 ++ xs2)) = H6 at sM gM gF6 o7 ⊢
      have rM : RulesAt H6 (xs1 ++ xs2) (r1 ++ r2) := paired_app o7.q1 o7.q2
      refine ⟨M, rfl, ⟨_, SqL.of gM⟩, fun Cc hC => ?_⟩
      have npC : p ≠ Cc := o7.pot.ne hC
      have nMC : M ≠ Cc := ne_of_none gM hC
      have nFC : Fw ≠ Cc := ne_of_none gF6 hC
      refine lc_it (walk_list (xs := xs1 ++ xs2)) (fun j Hj => PotAt Hj p ∧ But p H6 Hj ∧ ∃ ys : List Str, Hj Cc = some (.lst (ys.map V.str)) ∧ ys.length = j ∧ ∀ y ∈ ys, Over z y ∧ y.length ≤ 20) ?_ ?_ ?_ ?_
      · exact ⟨o7.pot.upd npC, (But.refl p H6).upd hC, [], upd_same, rfl, fun _ h => nomatch h⟩
      · rintro j Hj _ ⟨_, bj, _⟩
        exact SqL.of (bj _ _ gM (Ne.symm npM))
      · rintro j xv Hj0 Hj hj ⟨hpj, bj, ys, gC, ly, oky⟩ ⟨rfl, hxj⟩
        obtain ⟨d, hd, tt, rfl, hT⟩ := L2.paired_get (But.rules bj o7.pot rM) hxj
        have od : RuleOk z 4 d := by
          rcases List.mem_append.mp (List.mem_of_getElem? hd) with h | h
          · exact d1.ok d h
          · exact d2.ok d h
        have ol := od.o2
        refine ⟨tt, _, rfl, SqT.of hT, rfl, _, _, rfl, _, _, rfl, _, _, rfl, rfl, rfl, ?_⟩
        refine ⟨_, rfl, _, rfl, _, rfl, p, z, 3, rfl, hpj, by omega, by omega, by decide, by decide, fun y H8 oy ly2 hp8 b8 => ?_⟩
        have jl : j < (xs1 ++ xs2).length := (List.getElem?_eq_some_iff.mp hxj).1
        rw [List.length_append] at jl
        have lsum : (d.old ++ y).length ≤ 20 := by rw [len_app]; omega
        refine ⟨_, _, rfl, rfl, (by rw [sz]; omega), ?_⟩
        refine ⟨ys.map V.str, b8 _ _ gC (Ne.symm npC), (by rw [List.length_map, sz]; omega), hp8.upd npC, (bj.trans b8).upd hC, ys ++ [d.old ++ y], by rw [upd_same, List.map_append]; rfl, by rw [List.length_append, ly]; rfl, fun v hv => ?_⟩
        rcases List.mem_append.mp hv with h | h
        · exact oky v h
        · rw [List.mem_singleton.mp h]
          exact ⟨over_app od.o1 oy, lsum⟩
      · rintro Hd ⟨hpd, bd, ys, gC, ly, oky⟩
        have gFd := bd _ _ gF6 (Ne.symm npF)
        have bb : ByX p Hb Hd := (ByX.same (sB.trans sM)).trans (.but bd)
        have td : Tabs T Hd := tabs_butX o7.tab o7.pot bd
        refine ⟨Fw, Cc, _, _, rfl, rfl, gFd, gC, (by rw [List.length_map, List.length_map, sz, ly, List.length_append]; omega), ?_⟩
        have b9 : ByX p Hb (upd Hd Fw (.lst (fs.map V.str ++ ys.map V.str))) := byX_updF bb nF
        have p9 : PotAt (upd Hd Fw (.lst (fs.map V.str ++ ys.map V.str))) p := hpd.upd npF
        refine ⟨fs ++ ys, rfl, o5.byX p9 (tabs_updL td gFd) b9, relay_byX o5.pot b9 rx5, by rw [upd_same, List.map_append], fun v hv => ?_⟩
        rcases List.mem_append.mp hv with h | h
        · exact okf v h
        · exact oky v h
    clear o5 rx5 gF okf lf sB nF npF
    rintro σ' H6 ⟨gs, rfl, o6, rx6, gF, okg⟩
    refine ⟨fun σ' H' => ∃ (o5 o9 : Option V), σ' = [some (.ref p), some (.str z), some (.ref D1), some (.ref D2), some (.ref L), o5, some (.ref u), some (.ref x), some (.ref Fw), o9, none, none, none, none] ∧ Same H6 H', ?_, ?_⟩
    · refine ⟨_, rfl, Fw, rfl, ⟨_, SqL.of gF⟩, ?_⟩
      refine for_list (xs := gs.map V.str) (fun j σ Hj => ∃ (o5 o9 : Option V), σ = [some (.ref p), some (.str z), some (.ref D1), some (.ref D2), some (.ref L), o5, some (.ref u), some (.ref x), some (.ref Fw), o9, none, none, none, none] ∧ Same H6 Hj) ?_ ?_ ?_ ?_
      · exact ⟨_, _, rfl, Same.refl _⟩
      · rintro j σ Hj _ ⟨_, _, rfl, sj⟩
        exact SqL.of (sj _ _ gF)
      · rintro j xv σ Hj hx ⟨o5, o9, rfl, sj⟩
        rw [List.getElem?_map, Option.map_eq_some_iff] at hx
        obtain ⟨y, hy, rfl⟩ := hx
        obtain ⟨oy, ly⟩ := okg y (List.mem_of_getElem? hy)
        have oj := o6.same sj
        have rj := rx6.same sj
        obtain ⟨dx, fx, ex, _⟩ := rj.ins
        obtain ⟨da, fa, ea, _⟩ := oj.ra.ins
        obtain ⟨db, fb, eb, _⟩ := oj.rb.ins
        have lt1 := turn_len (rs := r1) (y := y) (b := 4) fun r hr => (d1.ok r hr).n2
        have lt2 := turn_len (rs := r2) (y := turn r1 y) (b := 4) fun r hr => (d2.ok r hr).n2
        have o1y := (turn_note (b := 4) d1.ok oy).1
        have o2y := (turn_note (b := 4) d2.ok o1y).1
        refine ⟨_, rfl, x, rfl, _, rfl, ⟨dx, fx, ex⟩, x, z, chg cs, y, rfl, rj, oy, by omega, lrc, fun H7 s7 => ?_⟩
        refine ⟨_, rfl, L, _, _, .ref b, rfl, rfl, SqL.of (s7 _ _ oj.hL), rfl, b, rfl, ?_⟩
        refine ⟨_, rfl, L, _, _, .ref a, rfl, rfl, SqL.of (s7 _ _ oj.hL), rfl, a, rfl, _, rfl, ⟨da, fa, s7 _ _ ea⟩, a, z, r1, y, rfl, oj.ra.same s7, oy, by omega, lr1, fun H8 s8 => ?_⟩
        have s78 := s7.trans s8
        refine ⟨⟨db, fb, s78 _ _ eb⟩, b, z, r2, turn r1 y, rfl, oj.rb.same s78, o1y, by omega, lr2, fun H9 s9 => ?_⟩
        have s79 := s78.trans s9
        refine ⟨(by show 2 ≤ sizeLine; decide), fun Tl hTl => ?_⟩
        rw [← same_y y oy]
        have s10 : Same H9 (upd H9 Tl (.lst [.str (turn r2 (turn r1 y)), .str (turn r2 (turn r1 y))])) := (Same.refl H9).upd hTl
        have gTl : upd H9 Tl (.lst [.str (turn r2 (turn r1 y)), .str (turn r2 (turn r1 y))]) Tl = some (.lst [.str (turn r2 (turn r1 y)), .str (turn r2 (turn r1 y))]) := upd_same
        generalize upd H9 Tl (.lst [.str (turn r2 (turn r1 y)), .str (turn r2 (turn r1 y))]) = H10 at s10 gTl ⊢
        have s7t := s79.trans s10
        refine ⟨_, rfl, _, rfl, _, rfl, (by show 2 ≤ sizeLine; decide), fun S hS => ?_⟩
        have s11 : Same H10 (upd H10 S (.lst [.ref D1, .ref D2])) := (Same.refl H10).upd hS
        have gS : upd H10 S (.lst [.ref D1, .ref D2]) S = some (.lst [.ref D1, .ref D2]) := upd_same
        generalize upd H10 S (.lst [.ref D1, .ref D2]) = H11 at s11 gS ⊢
        have o11 := oj.same (s7t.trans s11)
        refine ⟨_, rfl, S, y, [r1, r2], rfl, stg_two gS o11.h1 o11.q1 o11.h2 o11.q2 d1 d2, by omega, ?_⟩
        rw [thr_two]
        refine ⟨(by show 1 ≤ sizeLine; decide), fun L1 hL1 => ?_⟩
        have sk : Same H11 (upd H11 L1 (.lst [.str (turn r2 (turn r1 y))])) := (Same.refl H11).upd hL1
        refine ⟨L1, 2, [.str (turn r2 (turn r1 y))], rfl, rfl, upd_same, by decide, by decide, (by show 1 * 2 ≤ sizeLine; decide), fun M hM => ?_⟩
        have sM := sk.trans ((Same.refl _).upd (q := M) (o := .lst (List.replicate (2 : Int).toNat [V.str (turn r2 (turn r1 y))]).flatten) hM)
        have gM : upd (upd H11 L1 (.lst [.str (turn r2 (turn r1 y))])) M (.lst (List.replicate (2 : Int).toNat [V.str (turn r2 (turn r1 y))]).flatten) M = some (.lst [.str (turn r2 (turn r1 y)), .str (turn r2 (turn r1 y))]) := upd_same
        generalize upd (upd H11 L1 (.lst [.str (turn r2 (turn r1 y))])) M (.lst (List.replicate (2 : Int).toNat [V.str (turn r2 (turn r1 y))]).flatten) = H12 at sM gM ⊢
        have smp := sm_pair az o2y (by omega)
        have dall : ∀ {H' : Hp}, DpAll K H' [.str (turn r2 (turn r1 y)), .str (turn r2 (turn r1 y))] [.str (turn r2 (turn r1 y)), .str (turn r2 (turn r1 y))] := .cons (.str _) (.cons (.str _) .nil)
        refine ⟨_, _, .lst (SqL.of ((s11.trans sM) _ _ gTl)) dall, .lst (SqL.of gM) dall, smp.shaped, smp.shaped, _, rfl, ?_⟩
        rw [eqv_own smp]
        refine iteF ?_
        exact ⟨_, _, rfl, sj.trans ((s7t.trans s11).trans sM)⟩
      · rintro σ Hj ⟨o5, o9, rfl, sj⟩
        exact ⟨o5, o9, rfl, sj⟩
    rintro σ' H7 ⟨o5, o9, rfl, s7⟩
    have o7 := o6.same s7
    have rx7 := rx6.same s7
    refine ⟨fun σ' H' => σ' = [some (.ref p), some (.str z), some (.ref D1), some (.ref D2), some (.ref L), o5, some (.ref u), some (.ref x), some (.ref Fw), o9, none, none, none, none] ∧ Two R.C p D1 D2 L a b T z r1 r2 xs1 xs2 H H' ∧ RelayAt R.C H' x z (chg cs), ?_, ?_⟩
    · refine ⟨_, rfl, _, rfl, L, _, _, .ref a, rfl, rfl, SqL.of o7.hL, rfl, _, rfl, L, _, _, .ref b, rfl, rfl, SqL.of o7.hL, rfl, mul_wish o7.ra o7.rb az d1.rok d2.rok tb (fun e' he => by rw [e] at he; cases he) fun _ H8 y s8 ny ry => ?_⟩
      have o8 := o7.same s8
      have rx8 := rx7.same s8
      obtain ⟨dx, fx, ex, _⟩ := rx8.ins
      obtain ⟨dy, fy, ey, _⟩ := ry.ins
      refine ⟨x, dx, fx, rfl, ex, .inr ⟨y, dy, fy, rfl, ey⟩, x, z, chg cs, 40, .ref y, rfl, rx8, rp, .inr ⟨y, chg cs, rfl, ry, rp, rsEq (chg cs) (chg cs), rfl, _, rfl, ?_⟩⟩
      rw [rsEq_self]
      refine iteF ?_
      refine ⟨_, rfl, x, dx, fx, rfl, ex, x, z, chg cs, rfl, rx8, _, rfl, rfl, _, rfl, ?_⟩
      refine iteNS rfl ?_
      exact ⟨rfl, o8, rx8⟩
    clear o7 rx7
    rintro σ' H8 ⟨rfl, o8, rx8⟩
    obtain ⟨dx, fx, ex, nx⟩ := rx8.ins
    refine ⟨_, rfl, x, dx, fx, rfl, ex, nx m1 m2 m3, _, rfl, _, rfl, x, dx, fx, rfl, ex, nx n1 n2 n3, x, z, chg cs, rfl, rx8, fun A1 ys H9 nA gA rA s9 => ?_⟩
    refine make_at (rs := chg cs) az ⟨A1, ys, false, rfl, gA, rA⟩ krs.ok krs.few fun y H10 ny ry s10 => ?_
    have s910 := s9.trans s10
    refine ⟨x, y, z, chg cs, chg cs, rfl, rx8.same s910, ry, krs, krs, az, fun H11 bb s11 hb => ?_⟩
    obtain rfl : bb = true := hb.mpr fun _ _ => rfl
    have o11 := o8.same (s910.trans s11)
    exact k _ o11.pot o11.tab o11.by_
end
end K23
namespace K23
open PySem PySem.Spec PyProof.Rows L2 FL
open LamX
/-! ### _law_identity_right -/
theorem tL_idn : ∀ {rs : List Rule}, (∀ r ∈ rs, r.new = r.old) → ∀ l, tL rs l = l
  | [], _, _ => rfl
  | r :: rs, h, l => by
    have e1 := h r List.mem_cons_self
    have ih := tL_idn (rs := rs) (fun q m => h q (List.mem_cons_of_mem _ m)) l
    unfold tL
    rw [e1]
    cases r.fr with
    | true =>
      show (if ls r.old <+: l then ls r.old ++ l.drop (ls r.old).length else tL rs l) = l
      by_cases q : ls r.old <+: l
      · rw [if_pos q]
        obtain ⟨t, rfl⟩ := q
        rw [List.drop_left]
      · rw [if_neg q, ih]
    | false =>
      show (if l = ls r.old then ls r.old else tL rs l) = l
      by_cases q : l = ls r.old
      · rw [if_pos q, q]
      · rw [if_neg q, ih]
theorem turn_idn {rs : List Rule} (h : ∀ r ∈ rs, r.new = r.old) (y : Str) : turn rs y = y := ls_inj (by rw [FL.turn_list, tL_idn h])
theorem pow_wish {C CT x : Addr} {H : Hp} {Q : VK} {E : XK} {z : Str} {rs : List Rule} {n : Nat} {tab : Nat → List Rule} (hn : n ≤ 60) (rel : RelayAt C H x z rs) (az : Abc z) (ok : ROk z rs) (htab : ∀ i, TabS z (List.replicate i rs) (tab i))
    (due : ∀ i, i ≤ n → dueE (tab i) = none) (k : ∀ H' y, Same H H' → H y = none → RelayAt C H' y z (chg (tab n)) → Q (.ref y) H') : spPowX C CT [.ref x, .int n] H Q E :=
  ⟨x, z, rs, n, tab, rfl, hn, rel, az, ok, fun i _ => htab i, fun m e hm hd => (by rw [due m hm] at hd; cases hd), fun _ H' y s nn r => k H' y s nn r⟩
theorem Dl3.nil (z : Str) : Dl3 z [] := ⟨Nat.zero_le _, (fun _ h => nomatch h), (fun _ h => nomatch h)⟩
theorem Dl3.over {z : Str} {rs : List Rule} (d : Dl3 z rs) : ∀ r ∈ rs, RuleOk z 40 r := d.rok.ok
theorem one_let {z : Str} {rs cs : List Rule} (az : Abc z) (d : Dl3 z rs) (h : TabS z [rs] cs) : dueE cs = none :=
  two_let az (Dl3.nil z) d (TabS.congr (rss := [rs]) (rss' := [[], rs]) (ov_of (n := 40) fun rs' m => by rw [List.mem_singleton.mp m]; exact d.rok.ok) (ov_of (ok_two (Dl3.nil z).rok d.rok)) (fun y _ => rfl) h)
theorem rule_dp {rs : List Rule} (rp : RP 40 rs) : (PyData.list (rs.map ruleD)).depth ≤ 2 := by
  have h1 := (SmL.rules rp).dp
  show PyData.depthAll _ + 1 ≤ 2
  omega
theorem pow_tabs {z : Str} {rs : List Rule} (az : Abc z) (d : Dl3 z rs) : ∃ tab : Nat → List Rule, ∀ i, TabS z (List.replicate i rs) (tab i) := by
  have hR : ∀ i : Nat, ∃ c, TabS z (List.replicate i rs) c := fun i => Sml.tab az (fun rs' m r hr => by
    rw [(List.mem_replicate.mp m).2] at hr
    exact ⟨d.ok r hr, Nat.le_trans (d.short r hr) (most2_le z)⟩)
  exact ⟨fun i => Classical.choose (hR i), fun i => Classical.choose_spec (hR i)⟩
theorem most2_one (z : Str) : 1 ≤ most2 z := by unfold most2; split <;> decide
/-- rules, none of which changes a line -/
structure Bare (z : Str) (rs : List Rule) : Prop where
  d : Dl3 z rs
  idn : ∀ r ∈ rs, r.new = r.old
theorem thr_idn {rs : List Rule} (h : ∀ r ∈ rs, r.new = r.old) : ∀ (i : Nat) (y : Str), thr (List.replicate i rs) y = y
  | 0, _ => rfl
  | i + 1, y => by
    rw [List.replicate_succ]
    show thr (List.replicate i rs) (turn rs y) = y
    rw [turn_idn h, thr_idn h i]
/-- powers of such rules change no line -/
theorem bare_pow {z : Str} {rs cs : List Rule} (az : Abc z) (b : Bare z rs) {i : Nat} (h : TabS z (List.replicate i rs) cs) : chg cs = [] ∧ dueE cs = none := by
  refine tabS_nil az.up (TabS.congr (rss' := []) (ov_of (n := 40) fun rs' m => ?_) (fun rs' m => nomatch m) (fun y _ => thr_idn b.idn i y) h)
  rw [(List.mem_replicate.mp m).2]
  exact b.d.rok.ok
structure Idn (C p D x : Addr) (z : Str) (rs : List Rule) (xs : List V) (H0 H : Hp) : Prop where
  pot : PotAt H p
  by_ : But p H0 H
  hD : H D = some (.lst xs)
  q : RulesAt H xs rs
  rel : RelayAt C H x z rs
section
variable {C p D x : Addr} {z : Str} {rs : List Rule} {xs : List V} {H0 H H' : Hp}
theorem Idn.but (o : Idn C p D x z rs xs H0 H) (hp : PotAt H' p) (b : But p H H') : Idn C p D x z rs xs H0 H' :=
  ⟨hp, o.by_.trans b, b _ _ o.hD (fun e => pot_list o.pot (by rw [← e]; exact o.hD) o.q), But.rules b o.pot o.q, RelayAt.but o.rel o.pot b⟩
theorem Idn.same (o : Idn C p D x z rs xs H0 H) (s : Same H H') : Idn C p D x z rs xs H0 H' := o.but (FL.Same.pot s o.pot) (fun c o e _ => s c o e)
end
theorem first_sign {z : Str} (az : Abc z) : ∃ c, atI z.cps.toList 0 = some c ∧ c ∈ z.cps.toList := by
  have lo := az.lo
  have hl : 0 < z.cps.toList.length := by
    rw [Array.length_toList]
    show 0 < z.length
    omega
  obtain ⟨x, hx, e⟩ := atI_lt (xs := z.cps.toList) (d := 0) (by omega) (by omega)
  exact ⟨x, e, hx⟩
theorem bares {z : Str} {c : Nat} (hc : c ∈ z.cps.toList) : Bare z [] ∧ Bare z [⟨true, Str.ofString "", Str.ofString ""⟩] ∧ Bare z [⟨true, ⟨#[c]⟩, ⟨#[c]⟩⟩, ⟨false, Str.ofString "", Str.ofString ""⟩] := by
  have e0 : Over z (Str.ofString "") := fun c hc => by rw [show (Str.ofString "").cps.toList = [] by decide +kernel] at hc; cases hc
  have l0 : (Str.ofString "").length = 0 := by decide +kernel
  have r0 : ∀ b, RuleOk z 4 ⟨b, Str.ofString "", Str.ofString ""⟩ := fun b => ⟨e0, by show (Str.ofString "").length ≤ 4; omega, e0, by show (Str.ofString "").length ≤ 4; omega⟩
  have r1 : RuleOk z 4 ⟨true, ⟨#[c]⟩, ⟨#[c]⟩⟩ := ⟨over_one hc, by show (⟨#[c]⟩ : Str).length ≤ 4; rw [len_one]; decide, over_one hc, by show (⟨#[c]⟩ : Str).length ≤ 4; rw [len_one]; decide⟩
  refine ⟨⟨.nil z, fun _ h => nomatch h⟩, ⟨⟨by show 1 ≤ 3; decide, fun r hr => ?_, fun r hr => ?_⟩, fun r hr => ?_⟩, ⟨⟨by show 2 ≤ 3; decide, fun r hr => ?_, fun r hr => ?_⟩, fun r hr => ?_⟩⟩
  · rw [List.mem_singleton.mp hr]
    exact r0 true
  · rw [List.mem_singleton.mp hr]
    show (Str.ofString "").length ≤ _
    omega
  · rw [List.mem_singleton.mp hr]
  · rcases List.mem_cons.mp hr with rfl | hr
    · exact r1
    · rw [List.mem_singleton.mp hr]
      exact r0 false
  · rcases List.mem_cons.mp hr with rfl | hr
    · show (⟨#[c]⟩ : Str).length ≤ _
      rw [len_one]
      exact most2_one z
    · rw [List.mem_singleton.mp hr]
      show (Str.ofString "").length ≤ _
      omega
  · rcases List.mem_cons.mp hr with rfl | hr
    · rfl
    · rw [List.mem_singleton.mp hr]
abbrev sIden : Stmt := topS 69
abbrev nIden : List Str := ["_law_pot_here", "_law_abc_here", "_law_deals_here", "_law_plan", "_law_bare", "_law_due_here", "_law_told"]
theorem scIden : FnScope nIden ["_law_pot_here", "_law_abc_here", "_law_deals_here", "_law_plan"] (defScope sIden) := ⟨rfl, rfl, rfl, by decide +kernel, rfl, by decide +kernel, by decide +kernel⟩
def spIden (C : Addr) : Sp := fun vs H Q _ => ∃ (p D x : Addr) (z : Str) (rs : List Rule) (xs : List V), vs = [.ref p, .str z, .ref D, .ref x] ∧ Abc z ∧ Dl3 z rs ∧ Idn C p D x z rs xs H H ∧
  ∀ H', PotAt H' p → But p H H' → Q (.bl true) H'
section
variable {P : Program} {w : World} {K : PySem.W.Frag} {mg : Str → Option Value} {base : Heap}
theorem ok_iden {f CT : Addr} {fd : FuncData} (F : Fun K "_law_identity_right" "_law_identity_right" sIden f fd) (R : RelF P w K mg base) (G : RelP P w K mg base R CT) (mR : mg "repr" = none)
    (cK : Ca P w K mg base "_law_pick" 2 ["_law_pot_here", "_law_some"] (spPick K)) (cH : Ca P w K mg base "_law_changed" 1 ["_law_cards"] (spChanged K)) (cC : Ca P w K mg base "_law_cells" 3 ["_law_abc_here", "_law_stages"] (spLawCells K)) :
    FnG P w K mg base CX0 10 f fd ["_law_pot_here", "_law_abc_here", "_law_deals_here", "_law_plan"] (spIden R.C) := by
  refine okG F scIden (fun vs H Q E h => ?_) (fun cdv A outer s H vs Q E hr hg h => ?_)
  · obtain ⟨_, _, _, _, _, _, rfl, _⟩ := h
    rfl
  · obtain ⟨p, D, x, z, rs, xs, rfl, az, d, o, k⟩ := h
    have nd := scIden.nd
    have sz : sizeLine = 16777216 := rfl
    have h8 := hr.mono (show 8 ≤ 9 by decide)
    have h6 := hr.mono (show 6 ≤ 9 by decide)
    have h3 := hr.mono (show 3 ≤ 9 by decide)
    have h2 := hr.mono (show 2 ≤ 9 by decide)
    have h1 := hr.mono (show 1 ≤ 9 by decide)
    refine ⟨_, C8.pss_cut (ps_set (i := 4) nd rfl (.inl rfl) (pe_make R.mkc R.oi h6 (by rfl) R.T.mgC R.bi .nil pass0 (pa_cons (pv 1) (pa_cons (pe_ca cK h2 (by rfl) (pa_cons (pv 0) (pa_cons
          (pe_lst (pa_cons (pe_lst pa_nil) (pa_cons (pe_lst (pa_cons (pe_tup (pa_cons pe_str (pa_cons pe_str (pa_cons pe_str pa_nil)))) pa_nil))
            (pa_cons (pe_lst (pa_cons (pe_tup (pa_cons pe_str (pa_cons (pe_ix ix_str (pv 1) pe_int (fun _ _ => rfl)) (pa_cons (pe_ix ix_str (pv 1) pe_int (fun _ _ => rfl)) pa_nil)))) (pa_cons (pe_tup (pa_cons pe_str (pa_cons pe_str (pa_cons pe_str pa_nil)))) pa_nil))) pa_nil)))) pa_nil))) pa_nil))))
      (C8.pss_cut (ps_set (i := 5) nd rfl (.inl rfl) (pe_ca cH h1 (by rfl) (pa_cons (pe_ca cC h3 (by rfl) (pa_cons (pv 1) (pa_cons (pe_lst (pa_cons (pv 2) pa_nil)) pa_nil))) pa_nil)))
      (C8.pss_cut (ps_set (i := 6) nd rfl (.inl rfl) (pe_lst (pa_cons (pe_meth0 (pe_op (op_mulX G.tm G.om h8 passL) (pv 4) (pv 3)) R.T.cl R.mr R.or_ h1 R.br .nil pass0)
        (pa_cons (pe_meth0 (pe_op (op_mulX G.tm G.om h8 passL) (pv 3) (pv 4)) R.T.cl R.mr R.or_ h1 R.br .nil pass0)
        (pa_cons (pe_meth0 (pe_meth (pv 3) R.T.cl G.mp G.op hr G.bp .nil passL (pa_cons pe_int pa_nil)) R.T.cl R.mr R.or_ h1 R.br .nil pass0)
        (pa_cons (pe_meth0 (pe_methK (pv 3) R.T.cl G.mp G.op hr G.kp passL (pk_cons pe_int pk_nil)) R.T.cl R.mr R.or_ h1 R.br .nil pass0) pa_nil))))))
      (C8.pss_cut (ps_if (PW.pt (pw_or (pt_cmpR op_ne (pe_callB (call_repr hg hr.units) (by rfl) mR (by decide +kernel) (pa_cons (pv 6) pa_nil)) (pe_callB (call_repr hg hr.units) (by rfl) mR (by decide +kernel) (pa_cons (pe_op op_rep (pe_lst (pa_cons (pv 5) pa_nil)) pe_int) pa_nil)) (nomark _))
          (pw_or1 (pt_cmpR (op_neO R.te R.oe h3) (pe_meth (pv 3) R.T.cl G.mp G.op hr G.bp .nil passL (pa_cons pe_int pa_nil)) (pe_make R.mkc R.oi h6 (by rfl) R.T.mgC R.bi .nil pass0 (pa_cons (pv 1) (pa_cons (pe_lst pa_nil) pa_nil))) (nomark _))))) (pss_one (ps_ret pe_bl)) pss_nil)
      (pss_one (ps_ret (pe_and (pe_cmpR (op_eqO R.te R.oe h1) (pe_op (op_mulX G.tm G.om h8 passL) (pe_op (op_mulX G.tm G.om h8 passL) (pv 4) (pv 3)) (pv 4)) (pe_meth (pv 3) R.T.cl G.mp G.op hr G.bp .nil passL (pa_cons pe_int pa_nil)) (nomark _))
        (pe_one (pe_cmpR (op_eqD hr.units) (pe_meth0 (pe_meth (pv 4) R.T.cl G.mp G.op hr G.bp .nil passL (pa_cons pe_int pa_nil)) R.T.cl R.mr R.or_ h1 R.br .nil pass0) (pe_lst pa_nil) (nomark _))))))))), ?_⟩
    have lo := az.lo
    have hi := az.hi
    obtain ⟨n1, n2, n3⟩ := rules_no
    obtain ⟨_, ⟨p1, p2, p3⟩⟩ := methP_no
    obtain ⟨c, hc, hcm⟩ := first_sign az
    obtain ⟨bb0, bb1, bb2⟩ := bares hcm
    refine ⟨fun σ' H' => ∃ (b : Addr) (br : List Rule), σ' = [some (.ref p), some (.str z), some (.ref D), some (.ref x), some (.ref b), none, none] ∧ Idn R.C p D x z rs xs H H' ∧ RelayAt R.C H' b z br ∧ Bare z br, ?_, ?_⟩
    · have zl : z.length ≤ sizeLine := by rw [sz]; omega
      refine ⟨_, rfl, _, rfl, by decide, fun A0 hA0 => ?_⟩
      have s1 : Same H (upd H A0 (.lst [])) := (Same.refl H).upd hA0
      have g1 : upd H A0 (.lst []) A0 = some (.lst []) := upd_same
      generalize upd H A0 (.lst []) = H1 at s1 g1 ⊢
      refine ⟨(by show 3 ≤ sizeLine; decide), fun t1 ht1 => ?_⟩
      have s2 : Same H1 (upd H1 t1 (.tup [.str (Str.ofString "front"), .str (Str.ofString ""), .str (Str.ofString "")])) := (Same.refl H1).upd ht1
      have g2 : upd H1 t1 (.tup [.str (Str.ofString "front"), .str (Str.ofString ""), .str (Str.ofString "")]) t1 = some (.tup [.str (Str.ofString "front"), .str (Str.ofString ""), .str (Str.ofString "")]) := upd_same
      generalize upd H1 t1 (.tup [.str (Str.ofString "front"), .str (Str.ofString ""), .str (Str.ofString "")]) = H2 at s2 g2 ⊢
      refine ⟨(by show 1 ≤ sizeLine; decide), fun A1 hA1 => ?_⟩
      have s3 : Same H2 (upd H2 A1 (.lst [.ref t1])) := (Same.refl H2).upd hA1
      have g3 : upd H2 A1 (.lst [.ref t1]) A1 = some (.lst [.ref t1]) := upd_same
      generalize upd H2 A1 (.lst [.ref t1]) = H3 at s3 g3 ⊢
      refine ⟨_, rfl, z, 0, c, rfl, rfl, zl, hc, ?_⟩
      refine ⟨_, rfl, z, 0, c, rfl, rfl, zl, hc, ?_⟩
      refine ⟨(by show 3 ≤ sizeLine; decide), fun t2 ht2 => ?_⟩
      have s4 : Same H3 (upd H3 t2 (.tup [.str (Str.ofString "front"), .str ⟨#[c]⟩, .str ⟨#[c]⟩])) := (Same.refl H3).upd ht2
      have g4 : upd H3 t2 (.tup [.str (Str.ofString "front"), .str ⟨#[c]⟩, .str ⟨#[c]⟩]) t2 = some (.tup [.str (Str.ofString "front"), .str ⟨#[c]⟩, .str ⟨#[c]⟩]) := upd_same
      generalize upd H3 t2 (.tup [.str (Str.ofString "front"), .str ⟨#[c]⟩, .str ⟨#[c]⟩]) = H4 at s4 g4 ⊢
      refine ⟨(by show 3 ≤ sizeLine; decide), fun t3 ht3 => ?_⟩
      have s5 : Same H4 (upd H4 t3 (.tup [.str (Str.ofString "whole"), .str (Str.ofString ""), .str (Str.ofString "")])) := (Same.refl H4).upd ht3
      have g5 : upd H4 t3 (.tup [.str (Str.ofString "whole"), .str (Str.ofString ""), .str (Str.ofString "")]) t3 = some (.tup [.str (Str.ofString "whole"), .str (Str.ofString ""), .str (Str.ofString "")]) := upd_same
      generalize upd H4 t3 (.tup [.str (Str.ofString "whole"), .str (Str.ofString ""), .str (Str.ofString "")]) = H5 at s5 g5 ⊢
      refine ⟨(by show 2 ≤ sizeLine; decide), fun A2 hA2 => ?_⟩
      have s6 : Same H5 (upd H5 A2 (.lst [.ref t2, .ref t3])) := (Same.refl H5).upd hA2
      have g6 : upd H5 A2 (.lst [.ref t2, .ref t3]) A2 = some (.lst [.ref t2, .ref t3]) := upd_same
      generalize upd H5 A2 (.lst [.ref t2, .ref t3]) = H6 at s6 g6 ⊢
      refine ⟨(by show 3 ≤ sizeLine; decide), fun Lp hLp => ?_⟩
      have s7 : Same H6 (upd H6 Lp (.lst [.ref A0, .ref A1, .ref A2])) := (Same.refl H6).upd hLp
      have g7 : upd H6 Lp (.lst [.ref A0, .ref A1, .ref A2]) Lp = some (.lst [.ref A0, .ref A1, .ref A2]) := upd_same
      have n7 : p ≠ Lp := (FL.Same.pot (((((s1.trans s2).trans s3).trans s4).trans s5).trans s6) o.pot).ne hLp
      generalize upd H6 Lp (.lst [.ref A0, .ref A1, .ref A2]) = H7 at s7 g7 ⊢
      have s57 := s6.trans s7
      have s47 := s5.trans s57
      have s37 := s4.trans s47
      have s27 := s3.trans s37
      have s17 := s2.trans s27
      have s07 := s1.trans s17
      have o7 := o.same s07
      refine ⟨p, _, rfl, o7.pot, .inl ⟨Lp, _, rfl, Ne.symm n7, SqL.of g7, (by show 0 < 3; decide), (by show 3 ≤ 1000; decide), fun v H8 hv hp8 b8 => ?_⟩⟩
      have o8 := o7.but hp8 b8
      have lst8 : ∀ {a : Addr} {ys : List V} {br : List Rule}, H7 a = some (.lst ys) → RulesAt H7 ys br → H8 a = some (.lst ys) ∧ RulesAt H8 ys br := fun {a ys br} g r => ⟨b8 _ _ g (fun e => pot_list o7.pot (by rw [← e]; exact g) r), But.rules b8 o7.pot r⟩
      have got : ∃ (B : Addr) (ys : List V) (br : List Rule), v = .ref B ∧ H8 B = some (.lst ys) ∧ RulesAt H8 ys br ∧ Bare z br := by
        simp only [List.mem_cons, List.mem_nil_iff, or_false] at hv
        rcases hv with rfl | rfl | rfl
        · obtain ⟨g, r⟩ := lst8 (br := []) (s17 _ _ g1) .nil
          exact ⟨A0, _, _, rfl, g, r, bb0⟩
        · obtain ⟨g, r⟩ := lst8 (br := [⟨true, Str.ofString "", Str.ofString ""⟩]) (s37 _ _ g3) (.cons ⟨t1, rfl, s27 _ _ g2⟩ .nil)
          exact ⟨A1, _, _, rfl, g, r, bb1⟩
        · obtain ⟨g, r⟩ := lst8 (br := [⟨true, ⟨#[c]⟩, ⟨#[c]⟩⟩, ⟨false, Str.ofString "", Str.ofString ""⟩]) (s7 _ _ g6) (.cons ⟨t2, rfl, s47 _ _ g4⟩ (.cons ⟨t3, rfl, s57 _ _ g5⟩ .nil))
          exact ⟨A2, _, _, rfl, g, r, bb2⟩
      obtain ⟨B, ys, br, rfl, gB, rB, bare⟩ := got
      refine make_at (rs := br) az ⟨B, ys, false, rfl, gB, rB⟩ bare.d.rok.ok bare.d.rok.few fun b H9 nb rb s9 => ?_
      exact ⟨b, br, rfl, o8.same s9, rb, bare⟩
    clear bb0 bb1 bb2 hcm hc o
    rintro σ' H1 ⟨b, br, rfl, o, rb, bare⟩
    -- the tables
    obtain ⟨tab, htab⟩ := pow_tabs az d
    obtain ⟨tabB, htabB⟩ := pow_tabs az bare.d
    obtain ⟨z0, dz0⟩ := tabS_nil az.up (htab 0)
    have t1 : TabS z [rs] (tab 1) := htab 1
    have due1 := one_let az d t1
    have dueP : ∀ i, i ≤ 1 → dueE (tab i) = none := fun i hi => by
      rcases (by omega : i = 0 ∨ i = 1) with rfl | rfl
      · exact dz0
      · exact due1
    have dueB : ∀ i, i ≤ 5 → dueE (tabB i) = none := fun i _ => (bare_pow az bare (htabB i)).2
    have eB5 := (bare_pow az bare (htabB 5)).1
    have ok1 : ∀ rs' ∈ [rs], ∀ r ∈ rs', RuleOk z 40 r := fun rs' m => by rw [List.mem_singleton.mp m]; exact d.rok.ok
    have krs : ROk z (chg (tab 1)) := chg_rok ok1 t1 due1
    have al1 := t1.alike
    have tbP : TabS z [br, rs] (tab 1) := TabS.congr (ov_of ok1) (ov_of (ok_two bare.d.rok d.rok)) (fun y oy => by rw [thr_two, turn_idn bare.idn]; rfl) t1
    have tPb : TabS z [rs, br] (tab 1) := TabS.congr (ov_of ok1) (ov_of (ok_two d.rok bare.d.rok)) (fun y oy => by rw [thr_two, turn_idn bare.idn]; rfl) t1
    have tCb : TabS z [chg (tab 1), br] (tab 1) := TabS.congr (ov_of ok1) (ov_of (ok_two krs bare.d.rok)) (fun y oy => by rw [thr_two, turn_idn bare.idn]; exact al1 y oy) t1
    have rp : RP 40 (chg (tab 1)) := fun r hr => ⟨az.plain (krs.ok r hr).o1, az.plain (krs.ok r hr).n1, (krs.ok r hr).o2, (krs.ok r hr).n2⟩
    have smd := rp.sm40 krs.few
    have dpd := rule_dp rp
    have noE : ∀ {e : Str × Int} {A : Prop}, dueE (tab 1) = some e → A := fun {e A} q => by rw [due1] at q; cases q
    have ovr : OvS z [rs] := ov_of ok1
    generalize hcs : tab 1 = cs at t1 due1 krs tbP tPb tCb rp smd dpd noE al1
    refine ⟨fun σ' H' => ∃ (Fd : Addr) (fs : List V), σ' = [some (.ref p), some (.str z), some (.ref D), some (.ref x), some (.ref b), some (.ref Fd), none] ∧ Idn R.C p D x z rs xs H H' ∧ RelayAt R.C H' b z br ∧ H' Fd = some (.lst fs) ∧ RulesAt H' fs (chg cs), ?_, ?_⟩
    · refine ⟨_, rfl, _, rfl, (by show 1 ≤ sizeLine; decide), fun S hS => ?_⟩
      have s2 : Same H1 (upd H1 S (.lst [.ref D])) := (Same.refl H1).upd hS
      have gS : upd H1 S (.lst [.ref D]) S = some (.lst [.ref D]) := upd_same
      generalize upd H1 S (.lst [.ref D]) = H2 at s2 gS ⊢
      have o2 := o.same s2
      have stg : Stg K H2 S [rs] := ⟨⟨[D], SqL.of gS, .cons ⟨xs, SqL.of o2.hD, o2.q⟩ .nil⟩, Nat.le_of_ble_eq_true rfl, fun rs' m r hr => by
        rw [List.mem_singleton.mp m] at hr
        have := d.ok r hr
        exact ⟨Nat.le_trans this.o2 (by decide), Nat.le_trans this.n2 (by decide)⟩⟩
      refine ⟨z, S, [rs], 4, rfl, az, stg, fun y hy => (by
        have h1 := short_len (M := 2) (fun rs' m r hr => by
          rw [List.mem_singleton.mp m] at hr
          exact Nat.le_trans (d.short r hr) (most2_le z)) hy
        have h2 : [rs].length = 1 := rfl
        omega), by decide, fun H3 Dc ws N s3 nD gD bf rD lN => ?_⟩
      have eN : lawCells z [rs] N = cs := TabS.one ovr ⟨_, uns_of_bfs ovr bf, law_cells ovr bf (uns_of_bfs ovr bf)⟩ t1
      rw [eN] at rD
      have c400 := (dueE_none.mp due1).1
      refine ⟨Dc, ws, cs, rfl, SqL.of gD, rD, by omega, fun Fd fs H4 s4 nF gF rF => ?_⟩
      exact ⟨Fd, fs, rfl, o.same ((s2.trans s3).trans s4), rb.same ((s2.trans s3).trans s4), gF, rF⟩
    clear o rb
    rintro σ' H2 ⟨Fd, fs, rfl, o, rb, gF, rF⟩
    have cr := krs.few
    refine ⟨fun σ' H' => ∃ (M A1 A2 A3 A4 : Addr) (w1 w2 w3 w4 : List V), σ' = [some (.ref p), some (.str z), some (.ref D), some (.ref x), some (.ref b), some (.ref Fd), some (.ref M)] ∧ Idn R.C p D x z rs xs H H' ∧ RelayAt R.C H' b z br ∧ H' Fd = some (.lst fs) ∧ RulesAt H' fs (chg cs)
      ∧ H' M = some (.lst [.ref A1, .ref A2, .ref A3, .ref A4]) ∧ (H' A1 = some (.lst w1) ∧ RulesAt H' w1 (chg cs)) ∧ (H' A2 = some (.lst w2) ∧ RulesAt H' w2 (chg cs)) ∧ (H' A3 = some (.lst w3) ∧ RulesAt H' w3 (chg cs)) ∧ (H' A4 = some (.lst w4) ∧ RulesAt H' w4 (chg cs)), ?_, ?_⟩
    · refine ⟨_, rfl, _, rfl, mul_wish rb o.rel az bare.d.rok d.rok tbP (fun e he => noE he) fun _ H3 y1 s3 ny1 ry1 => ?_⟩
      obtain ⟨d1, f1, e1, nn1⟩ := ry1.ins
      refine ⟨y1, d1, f1, rfl, e1, nn1 n1 n2 n3, y1, z, chg cs, rfl, ry1, fun A1 w1 H4 nA1 gA1 rA1 s4 => ?_⟩
      have s24 := s3.trans s4
      refine ⟨_, rfl, _, rfl, mul_wish (o.rel.same s24) (rb.same s24) az d.rok bare.d.rok tPb (fun e he => noE he) fun _ H5 y2 s5 ny2 ry2 => ?_⟩
      obtain ⟨d2, f2, e2, nn2⟩ := ry2.ins
      refine ⟨y2, d2, f2, rfl, e2, nn2 n1 n2 n3, y2, z, chg cs, rfl, ry2, fun A2 w2 H6 nA2 gA2 rA2 s6 => ?_⟩
      have s46 := s5.trans s6
      have s26 := s24.trans s46
      have rl6 := o.rel.same s26
      obtain ⟨dx, fx, ex, nx⟩ := rl6.ins
      refine ⟨_, rfl, x, dx, fx, rfl, ex, nx p1 p2 p3, x, z, rs, 1, tab, rfl, (by decide), rl6, az, d.rok, (fun i _ => htab i), (fun m e hm hd => by rw [dueP m hm] at hd; cases hd), fun _ H7 y3 s7 ny3 ry3 => ?_⟩
      rw [hcs] at ry3
      obtain ⟨d3, f3, e3, nn3⟩ := ry3.ins
      refine ⟨y3, d3, f3, rfl, e3, nn3 n1 n2 n3, y3, z, chg cs, rfl, ry3, fun A3 w3 H8 nA3 gA3 rA3 s8 => ?_⟩
      have s68 := s7.trans s8
      have rl8 := rl6.same s68
      refine ⟨_, rfl, x, dx, fx, rfl, s68 _ _ ex, nx p1 p2 p3, rfl, x, z, rs, 1, tab, rfl, (by decide), rl8, az, d.rok, (fun i _ => htab i), (fun m e hm hd => by rw [dueP m hm] at hd; cases hd), fun _ H9 y4 s9 ny4 ry4 => ?_⟩
      rw [hcs] at ry4
      obtain ⟨d4, f4, e4, nn4⟩ := ry4.ins
      refine ⟨y4, d4, f4, rfl, e4, nn4 n1 n2 n3, y4, z, chg cs, rfl, ry4, fun A4 w4 H10 nA4 gA4 rA4 s10 => ?_⟩
      have s810 := s9.trans s10
      refine ⟨(by show 4 ≤ sizeLine; decide), fun M hM => ?_⟩
      have sM : Same H10 (upd H10 M (.lst [.ref A1, .ref A2, .ref A3, .ref A4])) := (Same.refl H10).upd hM
      have gM : upd H10 M (.lst [.ref A1, .ref A2, .ref A3, .ref A4]) M = some (.lst [.ref A1, .ref A2, .ref A3, .ref A4]) := upd_same
      generalize upd H10 M (.lst [.ref A1, .ref A2, .ref A3, .ref A4]) = H11 at sM gM ⊢
      have s8e := s810.trans sM
      have s6e := s68.trans s8e
      have s4e := s46.trans s6e
      have s2e := s24.trans s4e
      exact ⟨M, A1, A2, A3, A4, w1, w2, w3, w4, rfl, o.same s2e, rb.same s2e, s2e _ _ gF, Same.rules s2e rF, gM, ⟨s4e _ _ gA1, Same.rules s4e rA1⟩, ⟨s6e _ _ gA2, Same.rules s6e rA2⟩, ⟨s8e _ _ gA3, Same.rules s8e rA3⟩, ⟨sM _ _ gA4, Same.rules sM rA4⟩⟩
    clear o rb gF rF
    rintro σ' H3 ⟨M, A1, A2, A3, A4, w1, w2, w3, w4, rfl, o, rb, gF, rF, gM, ⟨gA1, rA1⟩, ⟨gA2, rA2⟩, ⟨gA3, rA3⟩, ⟨gA4, rA4⟩⟩
    have sm4 := (Sm.list (k := 2) (SmL.cons smd dpd (SmL.cons smd dpd (SmL.cons smd dpd (SmL.cons smd dpd SmL.nil)))) (by decide))
    have sm4' := sm4.mono (show _ ≤ 2000000 by omega)
    refine ⟨fun σ' H' => σ' = [some (.ref p), some (.str z), some (.ref D), some (.ref x), some (.ref b), some (.ref Fd), some (.ref M)] ∧ Idn R.C p D x z rs xs H H' ∧ RelayAt R.C H' b z br, ?_, ?_⟩
    · refine ⟨_, rfl, .ref M, .list [.list ((chg cs).map ruleD), .list ((chg cs).map ruleD), .list ((chg cs).map ruleD), .list ((chg cs).map ruleD)], rfl, .inl ⟨.lst (SqL.of gM) (.cons (dp_list (SqL.of gA1) rA1) (.cons (dp_list (SqL.of gA2) rA2) (.cons (dp_list (SqL.of gA3) rA3) (.cons (dp_list (SqL.of gA4) rA4) .nil)))), sm4'.nd⟩, sm4'.nice (by decide), ?_⟩
      refine ⟨_, rfl, (by show 1 ≤ sizeLine; decide), fun L1 hL1 => ?_⟩
      have sk : Same H3 (upd H3 L1 (.lst [.ref Fd])) := (Same.refl H3).upd hL1
      refine ⟨L1, 4, [.ref Fd], rfl, rfl, upd_same, by decide, by decide, (by show 1 * 4 ≤ sizeLine; decide), fun M2 hM2 => ?_⟩
      have sM := sk.trans ((Same.refl _).upd (q := M2) (o := .lst (List.replicate (4 : Int).toNat [V.ref Fd]).flatten) hM2)
      have gM2 : upd (upd H3 L1 (.lst [.ref Fd])) M2 (.lst (List.replicate (4 : Int).toNat [V.ref Fd]).flatten) M2 = some (.lst [.ref Fd, .ref Fd, .ref Fd, .ref Fd]) := upd_same
      generalize upd (upd H3 L1 (.lst [.ref Fd])) M2 (.lst (List.replicate (4 : Int).toNat [V.ref Fd]).flatten) = H4 at sM gM2 ⊢
      have dq : Dp K H4 (.ref Fd) (.list ((chg cs).map ruleD)) := dp_list (SqL.of (sM _ _ gF)) (Same.rules sM rF)
      refine ⟨.ref M2, .list [.list ((chg cs).map ruleD), .list ((chg cs).map ruleD), .list ((chg cs).map ruleD), .list ((chg cs).map ruleD)], rfl, .inl ⟨.lst (SqL.of gM2) (.cons dq (.cons dq (.cons dq (.cons dq .nil)))), sm4'.nd⟩, sm4'.nice (by decide), rfl, _, rfl, ?_⟩
      refine iteNS rfl ?_
      have o4 := o.same sM
      have rb4 := rb.same sM
      obtain ⟨dx, fx, ex, nx⟩ := o4.rel.ins
      refine ⟨_, rfl, x, dx, fx, rfl, ex, nx p1 p2 p3, x, z, rs, 0, tab, rfl, (by decide), o4.rel, az, d.rok, (fun i _ => htab i), (fun m e hm hd => by rw [dueP m (by omega)] at hd; cases hd), fun _ H5 y5 s5 ny5 ry5 => ?_⟩
      rw [z0] at ry5
      refine ⟨_, rfl, by decide, fun L3 hL3 => ?_⟩
      have s6 : Same H5 (upd H5 L3 (.lst [])) := (Same.refl H5).upd hL3
      have g6 : upd H5 L3 (.lst []) L3 = some (.lst []) := upd_same
      generalize upd H5 L3 (.lst []) = H6 at s6 g6 ⊢
      refine make_at (rs := []) az ⟨L3, [], false, rfl, g6, .nil⟩ (fun r hr => nomatch hr) (Nat.zero_le _) fun y6 H7 ny6 ry6 s7 => ?_
      have s57 := s6.trans s7
      have ry57 := ry5.same s57
      obtain ⟨d5, f5, e5, _⟩ := ry57.ins
      obtain ⟨d6, f6, e6, _⟩ := ry6.ins
      have rp0 : RP 40 [] := fun r hr => nomatch hr
      refine ⟨y5, d5, f5, rfl, e5, .inr ⟨y6, d6, f6, rfl, e6⟩, y5, z, [], 40, .ref y6, rfl, ry57, rp0, .inr ⟨y6, [], rfl, ry6, rp0, rsEq [] [], rfl, _, rfl, ?_⟩⟩
      rw [rsEq_self]
      refine iteF ?_
      exact ⟨rfl, o4.same (s5.trans s57), rb4.same (s5.trans s57)⟩
    clear o rb gF rF gM gA1 gA2 gA3 gA4 rA1 rA2 rA3 rA4 sm4 sm4'
    rintro σ' H4 ⟨rfl, o, rb⟩
    refine ⟨_, rfl, _, rfl, mul_wish rb o.rel az bare.d.rok d.rok tbP (fun e he => noE he) fun _ H5 y1 s5 ny1 ry1 => ?_⟩
    have rb5 := rb.same s5
    refine ⟨_, rfl, mul_wish ry1 rb5 az krs bare.d.rok tCb (fun e he => noE he) fun _ H6 y2 s6 ny2 ry2 => ?_⟩
    have s46 := s5.trans s6
    have o6 := o.same s46
    have rb6 := rb.same s46
    obtain ⟨dx, fx, ex, nx⟩ := o6.rel.ins
    refine ⟨_, rfl, x, dx, fx, rfl, ex, nx p1 p2 p3, x, z, rs, 1, tab, rfl, (by decide), o6.rel, az, d.rok, (fun i _ => htab i), (fun m e hm hd => by rw [dueP m hm] at hd; cases hd), fun _ H7 y3 s7 ny3 ry3 => ?_⟩
    rw [hcs] at ry3
    have ry27 := ry2.same s7
    obtain ⟨d2, f2, e2, _⟩ := ry27.ins
    obtain ⟨d3, f3, e3, _⟩ := ry3.ins
    refine ⟨y2, d2, f2, rfl, e2, .inr ⟨y3, d3, f3, rfl, e3⟩, y2, z, chg cs, 40, .ref y3, rfl, ry27, rp, .inr ⟨y3, chg cs, rfl, ry3, rp, rsEq (chg cs) (chg cs), rfl, ?_⟩⟩
    rw [rsEq_self]
    refine ⟨_, rfl, iteT ?_⟩
    have o7 := o6.same s7
    have rb7 := rb6.same s7
    obtain ⟨db, fb, eb, nb⟩ := rb7.ins
    refine ⟨_, rfl, b, db, fb, rfl, eb, nb p1 p2 p3, b, z, br, 5, tabB, rfl, (by decide), rb7, az, bare.d.rok, (fun i _ => htabB i), (fun m e hm hd => by rw [dueB m hm] at hd; cases hd), fun _ H8 y4 s8 ny4 ry4 => ?_⟩
    rw [eB5] at ry4
    obtain ⟨d4, f4, e4, nn4⟩ := ry4.ins
    refine ⟨y4, d4, f4, rfl, e4, nn4 n1 n2 n3, y4, z, [], rfl, ry4, fun A5 w5 H9 nA5 gA5 rA5 s9 => ?_⟩
    refine ⟨by decide, fun L4 hL4 => ?_⟩
    have s10 : Same H9 (upd H9 L4 (.lst [])) := (Same.refl H9).upd hL4
    have g10 : upd H9 L4 (.lst []) L4 = some (.lst []) := upd_same
    generalize upd H9 L4 (.lst []) = H10 at s10 g10 ⊢
    have eqE : PyData.eqv (.list ([].map ruleD)) (.list []) = true := rsEq_self []
    refine ⟨_, _, dp_list (SqL.of (s10 _ _ gA5)) (Same.rules s10 rA5), .lst (SqL.of g10) .nil, rfl, rfl, ?_⟩
    rw [eqE]
    have o10 := o7.same ((s8.trans s9).trans s10)
    exact k _ o10.pot o10.by_
end
end K23
namespace K23
open PySem PySem.Spec PyProof.Rows L2 FL
open LamX
/-! ### _law_powers_right -/
/-- the cells at the first power that is not let, else those of the last -/
def cN (tab : Nat → List Rule) : Nat → List Rule
  | 0 => tab 0
  | n + 1 => if dueE (cN tab n) = none then tab (n + 1) else cN tab n
theorem cN_all {tab : Nat → List Rule} : ∀ {n : Nat}, (∀ i, i ≤ n → dueE (tab i) = none) → cN tab n = tab n
  | 0, _ => rfl
  | n + 1, h => by
    have ih := cN_all (tab := tab) (n := n) fun i hi => h i (by omega)
    show (if dueE (cN tab n) = none then tab (n + 1) else cN tab n) = _
    rw [ih, if_pos (h n (by omega))]
theorem cN_none {tab : Nat → List Rule} : ∀ {n : Nat}, dueE (cN tab n) = none → ∀ i, i ≤ n → dueE (tab i) = none
  | 0, h, i, hi => by
    obtain rfl : i = 0 := by omega
    exact h
  | n + 1, h, i, hi => by
    have h' : dueE (if dueE (cN tab n) = none then tab (n + 1) else cN tab n) = none := h
    by_cases e : dueE (cN tab n) = none
    · rw [if_pos e] at h'
      rcases (by omega : i ≤ n ∨ i = n + 1) with q | rfl
      · exact cN_none e i q
      · exact h'
    · rw [if_neg e] at h'
      exact absurd h' e
theorem cN_first {tab : Nat → List Rule} {m : Nat} {e : Str × Int} (he : dueE (tab m) = some e) (hb : ∀ i, i < m → dueE (tab i) = none) : ∀ {n : Nat}, m ≤ n → cN tab n = tab m
  | 0, h => by
    obtain rfl : m = 0 := by omega
    rfl
  | n + 1, h => by
    show (if dueE (cN tab n) = none then tab (n + 1) else cN tab n) = _
    rcases (by omega : m ≤ n ∨ m = n + 1) with q | rfl
    · rw [cN_first he hb q, if_neg (by rw [he]; intro z; cases z)]
    · have := cN_all (tab := tab) (n := n) fun i hi => hb i (by omega)
      rw [this, if_pos (hb n (by omega))]
theorem cN_rok {z : Str} {rs : List Rule} {tab : Nat → List Rule} {n : Nat} (d : Dl3 z rs) (htab : ∀ i, TabS z (List.replicate i rs) (tab i)) (h : dueE (cN tab n) = none) : ROk z (chg (cN tab n)) := by
  have all := cN_none h
  rw [cN_all all] at h ⊢
  refine chg_rok (n := 40) (fun rs' m => ?_) (htab n) h
  rw [(List.mem_replicate.mp m).2]
  exact d.rok.ok
theorem flat_one {α : Type} (v : α) : ∀ n : Nat, (List.replicate n [v]).flatten = List.replicate n v
  | 0 => rfl
  | n + 1 => by
    rw [List.replicate_succ, List.flatten_cons, flat_one v n, List.replicate_succ]
    rfl
theorem paired_rep {α β : Type} {R : α → β → Prop} {a : α} {b : β} (h : R a b) : ∀ n : Nat, Paired R (List.replicate n a) (List.replicate n b)
  | 0 => .nil
  | n + 1 => by
    rw [List.replicate_succ, List.replicate_succ]
    exact .cons h (paired_rep h n)
theorem stg_rep {K : PySem.W.Frag} {H : Hp} {S D : Addr} {xs : List V} {z : Str} {rs : List Rule} {n : Nat} (hn : n ≤ 5) (g : H S = some (.lst (List.replicate n (V.ref D)))) (h1 : H D = some (.lst xs)) (r1 : RulesAt H xs rs) (d : Dl3 z rs) : Stg K H S (List.replicate n rs) := by
  refine ⟨⟨List.replicate n D, ?_, paired_rep ⟨xs, SqL.of h1, r1⟩ n⟩, by rw [List.length_replicate]; exact hn, fun rs' m r hr => ?_⟩
  · rw [List.map_replicate]
    exact SqL.of g
  · rw [(List.mem_replicate.mp m).2] at hr
    have := d.ok r hr
    exact ⟨Nat.le_trans this.o2 (by decide), Nat.le_trans this.n2 (by decide)⟩
/-- where one stands -/
structure Pws (C p D x : Addr) (T : List (Addr × Str)) (z : Str) (rs : List Rule) (xs : List V) (H0 H : Hp) : Prop where
  pot : PotAt H p
  tab : Tabs T H
  by_ : ByX p H0 H
  hD : H D = some (.lst xs)
  q : RulesAt H xs rs
  rel : RelayAt C H x z rs
section
variable {C p D x : Addr} {T : List (Addr × Str)} {z : Str} {rs : List Rule} {xs : List V} {H0 H H' : Hp}
theorem Pws.byX (o : Pws C p D x T z rs xs H0 H) (hp : PotAt H' p) (t : Tabs T H') (y : ByX p H H') : Pws C p D x T z rs xs H0 H' :=
  ⟨hp, t, o.by_.trans y, y _ _ o.hD (fun e => pot_list o.pot (by rw [← e]; exact o.hD) o.q) not_tbl_l, rules_byX o.pot y o.q, relay_byX o.pot y o.rel⟩
theorem Pws.same (o : Pws C p D x T z rs xs H0 H) (s : Same H H') : Pws C p D x T z rs xs H0 H' := o.byX (FL.Same.pot s o.pot) (o.tab.ext s) (.same s)
theorem Pws.ext (o : Pws C p D x T z rs xs H0 H) (e : ExtN H H') (t : Tabs T H') : Pws C p D x T z rs xs H0 H' := o.byX (pot_extN o.pot e) t (.ext e)
theorem Pws.but (o : Pws C p D x T z rs xs H0 H) (hp : PotAt H' p) (y : But p H H') : Pws C p D x T z rs xs H0 H' := o.byX hp (tabs_butX o.tab o.pot y) (.but y)
end
theorem SmL.two {k n : Nat} {d : PyData} (h : Sm n d) (hd : d.depth ≤ k) : SmL k (n + 2 + (n + 2 + 0)) [d, d] := SmL.cons h hd (SmL.cons h hd SmL.nil)
abbrev sPows : Stmt := topS 70
abbrev nPows : List Str := ["_law_pot_here", "_law_abc_here", "_law_deals_here", "_law_plan", "_law_due_here", "_law_told", "_law_early", "_law_often"]
theorem scPows : FnScope nPows ["_law_pot_here", "_law_abc_here", "_law_deals_here", "_law_plan"] (defScope sPows) := ⟨rfl, rfl, rfl, by decide +kernel, rfl, by decide +kernel, by decide +kernel⟩
abbrev powQ : Str := ((Str.ofString "_law_powers_right") ++ (Str.ofString ".<locals>.")) ++ (Str.ofString "<lambda>")
def spPows (C : Addr) (T : List (Addr × Str)) : Sp := fun vs H Q _ => ∃ (p D x : Addr) (z : Str) (rs : List Rule) (xs : List V), vs = [.ref p, .str z, .ref D, .ref x] ∧ Abc z ∧ Dl3 z rs ∧ Pws C p D x T z rs xs H H ∧
  ∀ H', PotAt H' p → Tabs T H' → ByX p H H' → Q (.bl true) H'
section
variable {P : Program} {w : World} {K : PySem.W.Frag} {mg : Str → Option Value} {base : Heap}
theorem ok_pows {f g c0 P0 CT CB : Addr} {fd gd : FuncData} {T : List (Addr × Str)} (F : Fun K "_law_powers_right" "_law_powers_right" sPows f fd) (hcd : fd.code = .ref c0) (LT : LamT T base mg c0 P0 powQ) (R : RelF P w K mg base) (G : RelP P w K mg base R CT)
    (FH : Fun K "_law_heard" "_law_heard" sHeard g gd) (bH : L2.Binds K gd ["_law_deed"] []) (mH : mg "_law_heard" = some (.ref g)) (Te : ErH K mg CT CB) (mI : mg "isinstance" = none) (mA : mg "ArithmeticError" = none) (mR : mg "repr" = none) (mG : mg "range" = none)
    (cU : Ca P w K mg base "_law_due" 4 ["_law_abc_here", "_law_stages"] (spDue K)) (cD : Ca P w K mg base "_law_draw" 1 ["_law_pot_here", "_law_much"] spDraw) :
    FnG P w K mg base CX0 12 f fd ["_law_pot_here", "_law_abc_here", "_law_deals_here", "_law_plan"] (spPows R.C T) := by
  refine okGC F hcd scPows (fun vs H Q E h => ?_) (fun A outer s H vs Q E hr hg h => ?_)
  · obtain ⟨_, _, _, _, _, _, rfl, _⟩ := h
    rfl
  · obtain ⟨p, D, x, z, rs, xs, rfl, az, d, o, k⟩ := h
    have nd := scPows.nd
    have sz : sizeLine = 16777216 := rfl
    have h9 := hr.mono (show 9 ≤ 11 by decide)
    have h8 := hr.mono (show 8 ≤ 11 by decide)
    have h4 := hr.mono (show 4 ≤ 11 by decide)
    have h3 := hr.mono (show 3 ≤ 11 by decide)
    have h1 := hr.mono (show 1 ≤ 11 by decide)
    refine ⟨_, C8.pss_cut (ps_set (i := 4) nd rfl (.inl rfl) (pe_lst (pa_cons pe_str (pa_cons (pe_lst pa_nil) pa_nil))))
      (C8.pss_cut (ps_for PassesOwn.never rfl (pi_range2 (by rfl) mG (pa_cons pe_int (pa_cons pe_int pa_nil))) (pg_name (i := 7) nd rfl (.inr rfl))
        (C8.pss_cut (ps_if (pt_cmpR op_eq (pe_ix ix_list (pv 4) pe_int (fun _ _ => rfl)) pe_str (nomark _))
          (pss_one (ps_set (i := 4) nd rfl (.inl rfl) (pe_ca cU h4 (by rfl) (pa_cons (pv 1) (pa_cons (pe_op op_rep (pe_lst (pa_cons (pv 2) pa_nil)) (pv 7)) pa_nil))))) pss_nil)
        (C8.pss_cut (ps_set (i := 5) nd rfl (.inl rfl) (pe_lst (pa_cons (pe_heard R FH bH (by rfl) mH Te (k := 9) hr mI mA LT (by rfl) (lamS_by (by show lamSB (defScope sPows) _ = true; decide +kernel)) (by rfl) (by intro _ _ _ _ _; rfl) (fun A' o' s' H' E' f' c' hr' => pe_meth (E := E') (pv 3) R.T.cl G.mp G.op hr' G.bp .nil pass_lamX (pa_cons (pv 7) pa_nil))) pa_nil)))
        (C8.pss_cut (ps_expr (pe_bm PySem.F.plainAttrs_list PySem.F.slot_list_append PySem.F.type_list_append mtAppend (pv 5) (pa_cons (pe_heard R FH bH (by rfl) mH Te (k := 9) hr mI mA LT (by rfl) (lamS_by (by show lamSB (defScope sPows) _ = true; decide +kernel)) (by rfl) (by intro _ _ _ _ _; rfl) (fun A' o' s' H' E' f' c' hr' => pe_methK (E := E') (pv 3) R.T.cl G.mp G.op hr' G.kp pass_lamX (pk_cons (pv 7) pk_nil))) pa_nil)))
        (pss_one (ps_if (pt_cmpR op_ne (pe_callB (call_repr hg hr.units) (by rfl) mR (by decide +kernel) (pa_cons (pv 5) pa_nil)) (pe_callB (call_repr hg hr.units) (by rfl) mR (by decide +kernel) (pa_cons (pe_op op_rep (pe_lst (pa_cons (pv 4) pa_nil)) pe_int) pa_nil)) (nomark _)) (pss_one (ps_ret pe_bl)) pss_nil))))))
      (C8.pss_cut (ps_set (i := 6) nd rfl (.inl rfl) (pe_ca cD h1 (by rfl) (pa_cons (pv 0) (pa_cons pe_int pa_nil))))
      (pss_one (ps_ret (pe_or (pe_cmpR op_ne (pe_ix ix_list (pv 4) pe_int (fun _ _ => rfl)) pe_str (nomark _))
        (pe_one (pe_cmpR (op_eqO R.te R.oe h1) (pe_op (op_mulX G.tm G.om h8 passL) (pe_meth (pv 3) R.T.cl G.mp G.op h9 G.bp .nil passL (pa_cons (pv 6) pa_nil)) (pe_meth (pv 3) R.T.cl G.mp G.op h9 G.bp .nil passL (pa_cons (pe_op op_sub pe_int (pv 6)) pa_nil)))
          (pe_meth (pv 3) R.T.cl G.mp G.op h9 G.bp .nil passL (pa_cons pe_int pa_nil)) (nomark _)))))))), ?_⟩
    have lo := az.lo
    have hi := az.hi
    obtain ⟨_, ⟨p1, p2, p3⟩⟩ := methP_no
    obtain ⟨tab, htab⟩ := pow_tabs az d
    obtain ⟨z0, dz0⟩ := tabS_nil az.up (htab 0)
    refine ⟨fun σ' H' => ∃ u : Addr, σ' = [some (.ref p), some (.str z), some (.ref D), some (.ref x), some (.ref u), none, none, none] ∧ Pws R.C p D x T z rs xs H H' ∧ ToldAt H' u (cN tab 0), ?_, ?_⟩
    · refine ⟨by decide, fun A0 hA0 => ?_⟩
      have s1 : Same H (upd H A0 (.lst [])) := (Same.refl H).upd hA0
      have g1 : upd H A0 (.lst []) A0 = some (.lst []) := upd_same
      generalize upd H A0 (.lst []) = H1 at s1 g1 ⊢
      refine ⟨(by show 2 ≤ sizeLine; decide), fun u hu => ?_⟩
      have s2 : Same H1 (upd H1 u (.lst [.str (Str.ofString "rules"), .ref A0])) := (Same.refl H1).upd hu
      refine ⟨u, rfl, o.same (s1.trans s2), ?_⟩
      unfold ToldAt
      rw [show dueE (cN tab 0) = none from dz0]
      show ∃ A xs, _ ∧ _ ∧ RulesAt _ xs (chg (tab 0))
      rw [z0]
      exact ⟨A0, [], upd_same, s2 _ _ g1, .nil⟩
    clear o
    rintro σ' H1 ⟨u0, rfl, o1, t0⟩
    refine ⟨fun σ' H' => ∃ (u : Addr) (o5 o7 : Option V), σ' = [some (.ref p), some (.str z), some (.ref D), some (.ref x), some (.ref u), o5, none, o7] ∧ Pws R.C p D x T z rs xs H H' ∧ ToldAt H' u (cN tab 5), ?_, ?_⟩
    · refine ⟨1, 6, rfl, by decide, ?_⟩
      refine for_range (lo := 1) (n := 5) (fun i σ Hi => ∃ (u : Addr) (o5 o7 : Option V), σ = [some (.ref p), some (.str z), some (.ref D), some (.ref x), some (.ref u), o5, none, o7] ∧ Pws R.C p D x T z rs xs H Hi ∧ ToldAt Hi u (cN tab i)) ?_ ?_ ?_
      · exact ⟨u0, none, none, rfl, o1, t0⟩
      · rintro i σ Hi hi ⟨u, o5, o7, rfl, oi, ti⟩
        rw [show (1 : Int) + (i : Int) = ((i + 1 : Nat) : Int) by omega]
        have ii : i < 5 := hi
        have smc := (res_sm (cs := cN tab (i + 1)) az (cN_rok d htab)).1
        have dpc := (res_sm (cs := cN tab (i + 1)) az (cN_rok d htab)).2
        refine ⟨fun σ' H' => ∃ v : Addr, σ' = [some (.ref p), some (.str z), some (.ref D), some (.ref x), some (.ref v), o5, none, some (.int ((i + 1 : Nat) : Int))] ∧ Pws R.C p D x T z rs xs H H' ∧ ToldAt H' v (cN tab (i + 1)), ?_, ?_⟩
        · have ti' := ti
          unfold ToldAt at ti'
          cases e : dueE (cN tab i) with
          | some q =>
            rw [e] at ti'
            have nw : ¬ (V.str q.1 = V.str (Str.ofString "rules")) := strV_ne (by rcases dueE_is e with rfl | rfl <;> decide +kernel)
            refine ⟨_, rfl, u, _, _, .str q.1, rfl, rfl, SqL.of ti', rfl, rfl, _, rfl, ?_⟩
            rw [decide_eq_false nw]
            refine iteF ?_
            refine ⟨u, rfl, oi, ?_⟩
            have ec : cN tab (i + 1) = cN tab i := by
              show (if dueE (cN tab i) = none then tab (i + 1) else cN tab i) = _
              rw [e]
              exact if_neg (fun z => by cases z)
            rw [ec]
            exact ti
          | none =>
            rw [e] at ti'
            obtain ⟨A, ys, gA, _⟩ := ti'
            refine ⟨_, rfl, u, _, _, .str (Str.ofString "rules"), rfl, rfl, SqL.of gA, rfl, rfl, _, rfl, ?_⟩
            rw [decide_eq_true (rfl : V.str (Str.ofString "rules") = V.str (Str.ofString "rules"))]
            refine iteT ?_
            have ec : cN tab (i + 1) = tab (i + 1) := by
              show (if dueE (cN tab i) = none then tab (i + 1) else cN tab i) = _
              rw [e]
              exact if_pos rfl
            rw [ec]
            refine ⟨_, rfl, _, rfl, (by show 1 ≤ sizeLine; decide), fun L1 hL1 => ?_⟩
            have s2 : Same Hi (upd Hi L1 (.lst [.ref D])) := (Same.refl Hi).upd hL1
            refine ⟨_, rfl, L1, ((i + 1 : Nat) : Int), [.ref D], rfl, rfl, upd_same, by omega, by omega, (by show 1 * _ ≤ sizeLine; rw [sz]; omega), fun M hM => ?_⟩
            have s3 := s2.trans ((Same.refl _).upd (q := M) (o := .lst (List.replicate ((i + 1 : Nat) : Int).toNat [V.ref D]).flatten) hM)
            have gM : upd (upd Hi L1 (.lst [.ref D])) M (.lst (List.replicate ((i + 1 : Nat) : Int).toNat [V.ref D]).flatten) M = some (.lst (List.replicate (i + 1) (V.ref D))) := by
              rw [upd_same, flat_one, Int.toNat_natCast]
            generalize upd (upd Hi L1 (.lst [.ref D])) M (.lst (List.replicate ((i + 1 : Nat) : Int).toNat [V.ref D]).flatten) = H3 at s3 gM ⊢
            have o3 := oi.same s3
            refine ⟨z, M, List.replicate (i + 1) rs, tab (i + 1), rfl, az, stg_rep (by omega) gM o3.hD o3.q d, fun rs' m r hr => ?_, htab (i + 1), fun H4 v s4 nv tv => ⟨v, rfl, o3.same s4, tv⟩⟩
            rw [(List.mem_replicate.mp m).2] at hr
            exact ⟨d.ok r hr, Nat.le_trans (d.short r hr) (most2_le z)⟩
        rintro σ' H2 ⟨v, rfl, o2, tv⟩
        refine ⟨fun σ' H' => ∃ M t1 : Addr, σ' = [some (.ref p), some (.str z), some (.ref D), some (.ref x), some (.ref v), some (.ref M), none, some (.int ((i + 1 : Nat) : Int))] ∧ Pws R.C p D x T z rs xs H H' ∧ ToldAt H' v (cN tab (i + 1)) ∧ H' M = some (.lst [.ref t1]) ∧ ToldAt H' t1 (cN tab (i + 1)) ∧ ∃ Hb, Pws R.C p D x T z rs xs H Hb ∧ ToldAt Hb v (cN tab (i + 1)) ∧ Hb M = none ∧ Same Hb H' ∧ ToldAt Hb t1 (cN tab (i + 1)), ?_, ?_⟩
        · refine ⟨o2.tab, fun H3 e3 T3 => ?_⟩
          have o3 := o2.ext e3 T3
          refine told_of (z := z) (cs := cN tab (i + 1)) (fun E' R' H4 s4 kE kV => ?_) fun H4 t1 s4 n1 told => ?_
          · have o4 := o3.same s4
            obtain ⟨dx, fx, ex, nx⟩ := o4.rel.ins
            refine ⟨_, rfl, x, dx, fx, rfl, ex, nx p1 p2 p3, _, rfl, x, z, rs, i + 1, tab, rfl, by omega, o4.rel, az, d.rok, (fun j _ => htab j), (fun m e hm he hb H5 dd s5 nd5 => kE e (by rw [cN_first he hb hm]; exact he) H5 dd s5 nd5), fun all H5 y s5 ny ry => kV (by rw [cN_all all]; exact all _ (Nat.le_refl _)) H5 y s5 ny (by rw [cN_all all]; exact ry)⟩
          · refine ⟨by show 1 ≤ sizeLine; decide, fun M hM => ?_⟩
            have o4 := o3.same s4
            have tv4 := (tv.ext e3).same s4
            have s5 : Same H4 (upd H4 M (.lst [.ref t1])) := (Same.refl H4).upd hM
            exact ⟨M, t1, rfl, o4.same s5, tv4.same s5, upd_same, told.same s5, H4, o4, tv4, hM, s5, told⟩
        clear o2 tv
        rintro σ' H3 ⟨M, t1, rfl, o3, tv, gM, tt1, Hb, ob, tvb, nMb, sb, ttb⟩
        refine ⟨fun σ' H' => ∃ t2 : Addr, σ' = [some (.ref p), some (.str z), some (.ref D), some (.ref x), some (.ref v), some (.ref M), none, some (.int ((i + 1 : Nat) : Int))] ∧ Pws R.C p D x T z rs xs H H' ∧ ToldAt H' v (cN tab (i + 1)) ∧ H' M = some (.lst [.ref t1, .ref t2]) ∧ ToldAt H' t1 (cN tab (i + 1)) ∧ ToldAt H' t2 (cN tab (i + 1)), ?_, ?_⟩
        · refine ⟨_, rfl, .inl ⟨rfl, _, SqL.of gM⟩, o3.tab, fun H4 e4 T4 => ?_⟩
          have o4 := o3.ext e4 T4
          have gM4 := e4 _ _ gM not_tbl_l
          refine told_of (z := z) (cs := cN tab (i + 1)) (fun E' R' H5 s5 kE kV => ?_) fun H5 t2 s5 n2 told => ?_
          · have o5 := o4.same s5
            obtain ⟨dx, fx, ex, nx⟩ := o5.rel.ins
            refine ⟨_, rfl, x, dx, fx, rfl, ex, nx p1 p2 p3, _, rfl, rfl, x, z, rs, i + 1, tab, rfl, by omega, o5.rel, az, d.rok, (fun j _ => htab j), (fun m e hm he hb H6 dd s6 nd6 => kE e (by rw [cN_first he hb hm]; exact he) H6 dd s6 nd6), fun all H6 y s6 ny ry => kV (by rw [cN_all all]; exact all _ (Nat.le_refl _)) H6 y s6 ny (by rw [cN_all all]; exact ry)⟩
          · have o5 := o4.same s5
            have gM5 := s5 _ _ gM4
            have e5 : ExtN Hb H5 := ((ExtN.of sb).trans e4).trans (.of s5)
            have eb : ExtN Hb (upd H5 M (.lst [.ref t1, .ref t2])) := extN_at e5 fun o q => by rw [nMb] at q; cases q
            have tb5 : Tabs T (upd H5 M (.lst [.ref t1, .ref t2])) := tabs_updL o5.tab gM5
            have tv5 := tvb.ext eb
            have tt5 := ttb.ext eb
            obtain ⟨w0, l0, g0⟩ := told_lst ((ttb.ext e5))
            exact ⟨M, _, _, rfl, rfl, gM5, (show 1 < sizeLine from by decide), t2, rfl, ob.ext eb tb5, tv5, upd_same, tt5, told_updM told gM5 g0⟩
        clear o3 tv gM tt1 ob tvb nMb sb ttb
        rintro σ' H4 ⟨t2, rfl, o4, tv, gM, tt1, tt2⟩
        have sm2 := (Sm.list (SmL.two smc dpc) (by decide)).mono (show _ ≤ 2000000 by decide)
        refine ⟨_, rfl, .ref M, .list [resD (cN tab (i + 1)), resD (cN tab (i + 1))], rfl, .inl ⟨.lst (SqL.of gM) (.cons tt1.dp (.cons tt2.dp .nil)), sm2.nd⟩, sm2.nice (by decide), ?_⟩
        refine ⟨_, rfl, (by show 1 ≤ sizeLine; decide), fun L1 hL1 => ?_⟩
        have sk : Same H4 (upd H4 L1 (.lst [.ref v])) := (Same.refl H4).upd hL1
        refine ⟨L1, 2, [.ref v], rfl, rfl, upd_same, by decide, by decide, (by show 1 * 2 ≤ sizeLine; decide), fun M2 hM2 => ?_⟩
        have sM := sk.trans ((Same.refl _).upd (q := M2) (o := .lst (List.replicate (2 : Int).toNat [V.ref v]).flatten) hM2)
        have gM2 : upd (upd H4 L1 (.lst [.ref v])) M2 (.lst (List.replicate (2 : Int).toNat [V.ref v]).flatten) M2 = some (.lst [.ref v, .ref v]) := upd_same
        generalize upd (upd H4 L1 (.lst [.ref v])) M2 (.lst (List.replicate (2 : Int).toNat [V.ref v]).flatten) = H5 at sM gM2 ⊢
        have tv5 := (tv.same sM).dp (K := K)
        refine ⟨.ref M2, .list [resD (cN tab (i + 1)), resD (cN tab (i + 1))], rfl, .inl ⟨.lst (SqL.of gM2) (.cons tv5 (.cons tv5 .nil)), sm2.nd⟩, sm2.nice (by decide), rfl, _, rfl, ?_⟩
        refine iteNS rfl ?_
        exact ⟨v, _, _, rfl, o4.same sM, tv.same sM⟩
      · rintro σ Hi ⟨u, o5, o7, rfl, oi, ti⟩
        exact ⟨u, o5, o7, rfl, oi, ti⟩
    clear o1 t0
    rintro σ' H2 ⟨u, o5, o7, rfl, o2, t2⟩
    refine ⟨fun σ' H' => ∃ e : Nat, e ≤ 5 ∧ σ' = [some (.ref p), some (.str z), some (.ref D), some (.ref x), some (.ref u), o5, some (.int (e : Int)), o7] ∧ Pws R.C p D x T z rs xs H H' ∧ ToldAt H' u (cN tab 5), ?_, ?_⟩
    · refine ⟨_, rfl, p, 6, rfl, o2.pot, by decide, by decide, fun dd H3 d0 d6 hp3 b3 => ?_⟩
      obtain ⟨e, rfl⟩ := Int.eq_ofNat_of_zero_le d0
      have by3 : ByX p H2 H3 := .but b3
      refine ⟨e, by omega, rfl, o2.but hp3 b3, ?_⟩
      have no_p : ∀ {a : Addr} {v : V} {l : List V}, H2 a = some (.lst (v :: l)) → (∀ n, v ≠ .int n) → a ≠ p := fun {a v l} g nv q => by
        obtain ⟨m1, m2, e, _⟩ := o2.pot
        rw [q, e] at g
        cases g
        exact nv _ rfl
      unfold ToldAt at t2 ⊢
      cases ed : dueE (cN tab 5) with
      | some q =>
        rw [ed] at t2
        exact b3 _ _ t2 (no_p t2 fun n z => by cases z)
      | none =>
        rw [ed] at t2
        obtain ⟨A, ys, g1, g2, g3⟩ := t2
        exact ⟨A, ys, b3 _ _ g1 (no_p g1 fun n z => by cases z), b3 _ _ g2 (fun q => pot_list o2.pot (by rw [← q]; exact g2) g3), But.rules b3 o2.pot g3⟩
    clear o2 t2
    rintro σ' H3 ⟨e, le, rfl, o3, t3⟩
    unfold ToldAt at t3
    cases ed : dueE (cN tab 5) with
    | some q =>
      rw [ed] at t3
      have nw : ¬ (V.str q.1 = V.str (Str.ofString "rules")) := strV_ne (by rcases dueE_is ed with rfl | rfl <;> decide +kernel)
      refine ⟨_, rfl, u, _, _, .str q.1, rfl, rfl, SqL.of t3, rfl, rfl, ?_⟩
      rw [decide_eq_false nw]
      refine ⟨_, rfl, iteT ?_⟩
      exact k _ o3.pot o3.tab o3.by_
    | none =>
      rw [ed] at t3
      obtain ⟨A, ys, g1, _⟩ := t3
      refine ⟨_, rfl, u, _, _, .str (Str.ofString "rules"), rfl, rfl, SqL.of g1, rfl, rfl, ?_⟩
      rw [decide_eq_true (rfl : V.str (Str.ofString "rules") = V.str (Str.ofString "rules"))]
      refine ⟨_, rfl, iteF ?_⟩
      have all := cN_none ed
      have okR : ∀ i : Nat, ∀ rs' ∈ List.replicate i rs, ∀ r ∈ rs', RuleOk z 40 r := fun i rs' m => by
        rw [(List.mem_replicate.mp m).2]
        exact d.rok.ok
      have kk : ∀ i, i ≤ 5 → ROk z (chg (tab i)) := fun i hi => chg_rok (okR i) (htab i) (all i hi)
      have tb : TabS z [chg (tab e), chg (tab (5 - e))] (tab 5) := by
        have h5 := htab 5
        have a1 : AlS z (List.replicate e rs ++ List.replicate (5 - e) rs) ([chg (tab e)] ++ List.replicate (5 - e) rs) := AlS.app (n := 40) (htab e).alike
        have a2 : AlS z ([chg (tab e)] ++ List.replicate (5 - e) rs) ([chg (tab e)] ++ [chg (tab (5 - e))]) := AlS.behind (n := 40) (fun rs' m => by rw [List.mem_singleton.mp m]; exact (kk e le).ok) (htab (5 - e)).alike
        have er : List.replicate e rs ++ List.replicate (5 - e) rs = List.replicate 5 rs := by rw [List.replicate_append_replicate, show e + (5 - e) = 5 by omega]
        rw [er] at a1
        exact TabS.congr (ov_of (okR 5)) (ov_of (ok_two (kk e le) (kk (5 - e) (by omega)))) (fun y oy => (a1 y oy).trans (a2 y oy)) h5
      obtain ⟨dx, fx, ex, nx⟩ := o3.rel.ins
      refine ⟨_, rfl, x, dx, fx, rfl, ex, nx p1 p2 p3, _, rfl, x, z, rs, e, tab, rfl, by omega, o3.rel, az, d.rok, (fun i _ => htab i), (fun m e' hm hd => by rw [all m (by omega)] at hd; cases hd), fun _ H4 y1 s4 n1 r1 => ?_⟩
      have o4 := o3.same s4
      refine ⟨_, rfl, x, dx, fx, rfl, s4 _ _ ex, nx p1 p2 p3, _, rfl, _, _, rfl, rfl, x, z, rs, 5 - e, tab, (by rw [Int.ofNat_sub le]; rfl), by omega, o4.rel, az, d.rok, (fun i _ => htab i), (fun m e' hm hd => by rw [all m (by omega)] at hd; cases hd), fun _ H5 y2 s5 n2 r2 => ?_⟩
      have o5 := o4.same s5
      refine mul_wish (r1.same s5) r2 az (kk e le) (kk (5 - e) (by omega)) tb (fun e' he => by rw [all 5 (Nat.le_refl _)] at he; cases he) fun _ H6 y3 s6 n3 r3 => ?_
      have o6 := o5.same s6
      refine ⟨_, rfl, x, dx, fx, rfl, s6 _ _ (s5 _ _ (s4 _ _ ex)), nx p1 p2 p3, x, z, rs, 5, tab, rfl, by decide, o6.rel, az, d.rok, (fun i _ => htab i), (fun m e' hm hd => by rw [all m hm] at hd; cases hd), fun _ H7 y4 s7 n4 r4 => ?_⟩
      have r37 := r3.same s7
      obtain ⟨d3, f3, e3, _⟩ := r37.ins
      obtain ⟨d4, f4, e4, _⟩ := r4.ins
      have krs := kk 5 (Nat.le_refl _)
      have rp : RP 40 (chg (tab 5)) := fun r hr => ⟨az.plain (krs.ok r hr).o1, az.plain (krs.ok r hr).n1, (krs.ok r hr).o2, (krs.ok r hr).n2⟩
      refine ⟨y3, d3, f3, rfl, e3, .inr ⟨y4, d4, f4, rfl, e4⟩, y3, z, chg (tab 5), 40, .ref y4, rfl, r37, rp, .inr ⟨y4, chg (tab 5), rfl, r4, rp, rsEq (chg (tab 5)) (chg (tab 5)), rfl, ?_⟩⟩
      rw [rsEq_self]
      have o7 := o6.same s7
      exact k _ o7.pot o7.tab o7.by_
end
end K23
/-! repr of data of the run's own: lists, tuples, dicts within one another -/
namespace FL
open PySem PySem.Spec PyProof.Rows L2
def kD : Key → PyData
  | .inl i => .int i
  | .inr x => .str x
mutual
inductive Dq (H : Hp) : V → PyData → Prop
  | non : Dq H .non .none
  | bl (b : Bool) : Dq H (.bl b) (.bool b)
  | int (i : Int) : Dq H (.int i) (.int i)
  | str (x : Str) : Dq H (.str x) (.str x)
  | lst {a : Addr} {xs : List V} {ds : List PyData} : H a = some (.lst xs) → DqAll H xs ds → Dq H (.ref a) (.list ds)
  | tup {a : Addr} {xs : List V} {ds : List PyData} : H a = some (.tup xs) → DqAll H xs ds → Dq H (.ref a) (.tuple ds)
  | dct {a : Addr} {kvs : List (Key × V)} {es : List (PyData × PyData)} : H a = some (.dK kvs) → es.map (·.1) = kvs.map (fun q => kD q.1) → DqAll H (kvs.map (·.2)) (es.map (·.2)) → Dq H (.ref a) (.dict es)
inductive DqAll (H : Hp) : List V → List PyData → Prop
  | nil : DqAll H [] []
  | cons {v : V} {vs : List V} {d : PyData} {ds : List PyData} : Dq H v d → DqAll H vs ds → DqAll H (v :: vs) (d :: ds)
end
section
variable {X : Cx} {pins : List (Addr × Obj)} {σ : L2.St} {H : Hp} {s : Shared}
theorem sys_free (I : Inv X pins σ H s) (hs : (X.K.lookup sysModules).isSome = true) : H sysModules = none := by
  obtain ⟨o, e⟩ := Option.isSome_iff_exists.mp hs
  exact (I.bs sysModules o (I.ok.mod.kin _ _ e)).2
theorem keys_read {h : Heap} {es : List DictEntry} {vs : List (Key × Value)} (h2 : PySem.Pairs (mixKind X.prog X.w) es vs) : ∀ {kvs : List (Key × V)}, KV kvs vs → ReadsAll h (es.map (·.key)) (kvs.map fun q => kD q.1) [] ∧ Vals (kvs.map (·.2)) (es.map (·.val)) := by
  induction h2 with
  | nil =>
    intro kvs h1
    cases h1
    exact ⟨.nil, .nil⟩
  | @cons e kv es vs k1 k2 _ ih =>
    intro kvs h1
    cases h1 with
    | @cons q _ qs _ r t =>
      obtain ⟨r1, r2⟩ := r
      obtain ⟨a1, a2⟩ := ih t
      refine ⟨?_, .cons (show L2.RelV q.2 e.val by rw [k2]; exact r2) a2⟩
      have kk : keyIs kv.1 e.key = true := k1
      have one : Reads h e.key (kD q.1) [] := by
        rw [r1]
        rcases keyIs_shape kk with ⟨i, t, e1, e2⟩ | ⟨x, t, e1, e2⟩
        · rw [e1, e2]
          exact .int i t
        · rw [e1, e2]
          exact .str x t
      exact ReadsAll.cons (as := []) (bs := []) one a1
mutual
theorem Dq.reads (I : Inv X pins σ H s) : ∀ {v : V} {d : PyData} (u : Value), Dq H v d → RelV v u → ∃ as, Reads s.heap u d as ∧ ∀ b ∈ as, H b ≠ none
  | _, _, _, .non, r => by
    cases r
    exact ⟨_, .none, fun _ h => nomatch h⟩
  | _, _, _, .bl b, r => by
    cases r
    exact ⟨_, .bool b, fun _ h => nomatch h⟩
  | _, _, _, .int i, r => by
    obtain ⟨t, rfl⟩ := r
    exact ⟨_, .int i t, fun _ h => nomatch h⟩
  | _, _, _, .str x, r => by
    obtain ⟨t, rfl⟩ := r
    exact ⟨_, .str x t, fun _ h => nomatch h⟩
  | _, _, _, .lst (a := a) e ha, r => by
    cases r
    obtain ⟨_, its, n, rv, ho⟩ := I.hok _ _ e
    obtain ⟨as, hr, hn⟩ := DqAll.reads I its ha rv
    refine ⟨_, Reads.list ho rfl rfl (by simpa using hr), fun b hb => ?_⟩
    rcases List.mem_cons.mp hb with rfl | hb
    · rw [e]
      exact fun z => nomatch z
    · exact hn b hb
  | _, _, _, .tup (a := a) e ha, r => by
    cases r
    obtain ⟨its, rv, ⟨o, ho, hc, n, hd⟩, _⟩ := I.tuple (SqT.of e)
    obtain ⟨as, hr, hn⟩ := DqAll.reads I its ha rv
    exact ⟨_, Reads.tuple ho hc hd (by simpa using hr), hn⟩
  | _, _, _, .dct (a := a) (es := ds) e hk ha, r => by
    cases r
    obtain ⟨_, _, vs, kv, o, es, ep, h1, h2, h3, _, pr, _⟩ := I.hok _ _ e
    obtain ⟨rk, rv⟩ := keys_read pr kv
    obtain ⟨bs, hr, hn⟩ := DqAll.reads I _ ha rv
    rw [← hk] at rk
    refine ⟨_, Reads.dict h1 h2.1 h3 rk hr, fun b hb => ?_⟩
    have hb : b ∈ a :: bs := by simpa using hb
    rcases List.mem_cons.mp hb with rfl | hb
    · rw [e]
      exact fun z => nomatch z
    · exact hn b hb
theorem DqAll.reads (I : Inv X pins σ H s) : ∀ {vs : List V} {ds : List PyData} (us : List Value), DqAll H vs ds → Vals vs us → ∃ as, ReadsAll s.heap us ds as ∧ ∀ b ∈ as, H b ≠ none
  | _, _, _, .nil, r => by
    cases r
    exact ⟨_, .nil, fun _ h => nomatch h⟩
  | _, _, _, .cons h1 h2, r => by
    cases r with
    | cons r1 r2 =>
      obtain ⟨as, q1, n1⟩ := Dq.reads I _ h1 r1
      obtain ⟨bs, q2, n2⟩ := DqAll.reads I _ h2 r2
      refine ⟨_, .cons q1 q2, fun b hb => ?_⟩
      rcases List.mem_append.mp hb with hb | hb
      · exact n1 b hb
      · exact n2 b hb
end
end
section
variable {X : Cx}
theorem call_reprD (hs : (X.K.lookup sysModules).isSome = true) (hG : X.A.guards = some []) (hu : X.A.units + 64 < cLine) :
    CallR X (.builtin "repr") (fun xs H Q => ∃ v d, xs = [v] ∧ Dq H v d ∧ NiceD d ∧ Q (.str d.shown) H) := by
  intro pins s σ H xs us Q I r h
  obtain ⟨v, d, rfl, hd, ⟨n1, n2, n3⟩, q⟩ := h
  cases r with
  | cons r1 r2 =>
    cases r2
    rename_i u
    obtain ⟨as, rd, ok⟩ := Dq.reads I u hd r1
    have no : sysModules ∉ as := fun hb => ok _ hb (sys_free I hs)
    have out : ∀ (h' : Heap) (w : Tok) (tk : Nat), (∀ b o, s.heap.get? b = some o → h'.get? b = some o) →
        EP X pins σ Q (.str d.shown w) { s with heap := h', toks := tk } :=
      fun h' w tk kp => ⟨.str d.shown, H, I.kept kp, ⟨w, rfl⟩, q⟩
    cases rd with
    | none => exact P.repr_of_none (out s.heap _ _ fun _ _ e => e)
    | bool b => exact P.repr_of_bool (out s.heap _ _ fun _ _ e => e)
    | int i t => exact P.repr_of_int (by simpa [PyData.showable] using n1) (out s.heap _ _ fun _ _ e => e)
    | str z t => exact P.repr_of_str (out s.heap _ _ fun _ _ e => e) n3
    | list h1 h2 h3 h4 => exact repr_of_reads' (.list h1 h2 h3 h4) n1 (fun _ => no) hG (by omega) (fun _ _ e => e) out n3
    | tuple h1 h2 h3 h4 => exact repr_of_reads' (.tuple h1 h2 h3 h4) n1 (fun _ => no) hG (by omega) (fun _ _ e => e) out n3
    | dict h1 h2 h3 h4 h5 => exact repr_of_reads' (.dict h1 h2 h3 h4 h5) n1 (fun _ => no) hG (by omega) (fun _ _ e => e) out n3
end
end FL
/-! data of the run's own that a law holds while its pot at p changes; sizes of what is shown -/
namespace FL
open PySem PySem.Spec PyProof.Rows L2
theorem not_tbl_d {xs : List (Key × V)} : ∀ ps, (HO.dK xs) ≠ .tbl ps := fun _ z => by cases z
mutual
inductive Dr (H : Hp) (p : Addr) : V → PyData → Prop
  | non : Dr H p .non .none
  | bl (b : Bool) : Dr H p (.bl b) (.bool b)
  | int (i : Int) : Dr H p (.int i) (.int i)
  | str (x : Str) : Dr H p (.str x) (.str x)
  | lst {a : Addr} {xs : List V} {ds : List PyData} : a ≠ p → H a = some (.lst xs) → DrAll H p xs ds → Dr H p (.ref a) (.list ds)
  | tup {a : Addr} {xs : List V} {ds : List PyData} : a ≠ p → H a = some (.tup xs) → DrAll H p xs ds → Dr H p (.ref a) (.tuple ds)
  | dct {a : Addr} {kvs : List (Key × V)} {es : List (PyData × PyData)} : a ≠ p → H a = some (.dK kvs) → es.map (·.1) = kvs.map (fun q => kD q.1) → DrAll H p (kvs.map (·.2)) (es.map (·.2)) → Dr H p (.ref a) (.dict es)
inductive DrAll (H : Hp) (p : Addr) : List V → List PyData → Prop
  | nil : DrAll H p [] []
  | cons {v : V} {vs : List V} {d : PyData} {ds : List PyData} : Dr H p v d → DrAll H p vs ds → DrAll H p (v :: vs) (d :: ds)
end
mutual
theorem Dr.bx {H H' : Hp} {p : Addr} (b : ByX p H H') : ∀ {v : V} {d : PyData}, Dr H p v d → Dr H' p v d
  | _, _, .non => .non
  | _, _, .bl b => .bl b
  | _, _, .int i => .int i
  | _, _, .str x => .str x
  | _, _, .lst n e h => .lst n (b _ _ e n not_tbl_l) (DrAll.bx b h)
  | _, _, .tup n e h => .tup n (b _ _ e n not_tbl_t) (DrAll.bx b h)
  | _, _, .dct n e k h => .dct n (b _ _ e n not_tbl_d) k (DrAll.bx b h)
theorem DrAll.bx {H H' : Hp} {p : Addr} (b : ByX p H H') : ∀ {vs : List V} {ds : List PyData}, DrAll H p vs ds → DrAll H' p vs ds
  | _, _, .nil => .nil
  | _, _, .cons h1 h2 => .cons (Dr.bx b h1) (DrAll.bx b h2)
end
mutual
theorem Dr.dq {H : Hp} {p : Addr} : ∀ {v : V} {d : PyData}, Dr H p v d → Dq H v d
  | _, _, .non => .non
  | _, _, .bl b => .bl b
  | _, _, .int i => .int i
  | _, _, .str x => .str x
  | _, _, .lst n e h => .lst e (DrAll.dq h)
  | _, _, .tup n e h => .tup e (DrAll.dq h)
  | _, _, .dct n e k h => .dct e k (DrAll.dq h)
theorem DrAll.dq {H : Hp} {p : Addr} : ∀ {vs : List V} {ds : List PyData}, DrAll H p vs ds → DqAll H vs ds
  | _, _, .nil => .nil
  | _, _, .cons h1 h2 => .cons (Dr.dq h1) (DrAll.dq h2)
end
theorem Dr.any {H : Hp} {p : Addr} {v : V} {d : PyData} (h : Dr H p v d) : ∃ n, Any H v n := by
  cases h with
  | non => exact ⟨_, .non⟩
  | bl b => exact ⟨_, .bl b⟩
  | int i => exact ⟨_, .int i⟩
  | str z => exact ⟨_, .str z⟩
  | lst n e f => exact ⟨_, .lst e⟩
  | tup n e f => exact ⟨_, .tup e⟩
  | dct n e _ _ => exact ⟨_, .dct e⟩
theorem DrAll.one {H : Hp} {p : Addr} {v : V} {d : PyData} (h : Dr H p v d) : DrAll H p [v] [d] := .cons h .nil
theorem DrAll.append {H : Hp} {p : Addr} : ∀ {vs ws : List V} {ds es : List PyData}, DrAll H p vs ds → DrAll H p ws es → DrAll H p (vs ++ ws) (ds ++ es)
  | _, _, _, _, .nil, h => h
  | _, _, _, _, .cons h1 h2, h => .cons h1 (DrAll.append h2 h)
theorem DrAll.strs {H : Hp} {p : Addr} : ∀ (ms : List Str), DrAll H p (ms.map V.str) (ms.map PyData.str)
  | [] => .nil
  | m :: ms => .cons (.str m) (DrAll.strs ms)
/-! ### sizes -/
structure Sz (k n : Nat) (d : PyData) : Prop where
  sh : d.showable = true
  dp : d.depth ≤ k
  len : d.shown.length ≤ n
structure SzL (k n : Nat) (ds : List PyData) : Prop where
  sh : PyData.showableAll ds = true
  dp : PyData.depthAll ds ≤ k
  len : piled (PyData.shownAll ds) ≤ n
theorem Sz.nice {k n : Nat} {d : PyData} (h : Sz k n d) (hk : k ≤ 40) (hn : n ≤ 16777216) : NiceD d := ⟨h.sh, Nat.le_trans h.dp hk, Nat.le_trans h.len hn⟩
theorem Sz.mono {k l n m : Nat} {d : PyData} (h : Sz k n d) (hk : k ≤ l) (hn : n ≤ m) : Sz l m d := ⟨h.sh, Nat.le_trans h.dp hk, Nat.le_trans h.len hn⟩
theorem SzL.mono {k l n m : Nat} {d : List PyData} (h : SzL k n d) (hk : k ≤ l) (hn : n ≤ m) : SzL l m d := ⟨h.sh, Nat.le_trans h.dp hk, Nat.le_trans h.len hn⟩
theorem SzL.nil {k : Nat} : SzL k 0 [] := ⟨rfl, Nat.zero_le _, Nat.le_refl _⟩
theorem SzL.cons {k m n : Nat} {d : PyData} {ds : List PyData} (h : Sz k m d) (r : SzL k n ds) : SzL k (m + 2 + n) (d :: ds) := by
  refine ⟨?_, ?_, ?_⟩
  · show (d.showable && PyData.showableAll ds) = true
    rw [h.sh, r.sh]
    rfl
  · show max d.depth (PyData.depthAll ds) ≤ k
    have h1 := r.dp
    have h2 := h.dp
    omega
  · show piled (d.shown :: PyData.shownAll ds) ≤ _
    rw [piled_cons]
    have h1 := r.len
    have h2 := h.len
    omega
theorem Sz.list {k n : Nat} {ds : List PyData} (h : SzL k n ds) : Sz (k + 1) (n + 2) (.list ds) := by
  refine ⟨h.sh, ?_, ?_⟩
  · show PyData.depthAll ds + 1 ≤ k + 1
    have := h.dp
    omega
  · show (listText (PyData.shownAll ds)).length ≤ _
    unfold listText
    rw [strLen_append]
    have h1 := textFrom_le (PyData.shownAll ds) 0 "["
    have h2 : (("[" : String) : Str).length = 1 := rfl
    have h3 : (("]" : String) : Str).length = 1 := rfl
    have h4 := h.len
    omega
theorem Sz.tuple {k n : Nat} {ds : List PyData} (h : SzL k n ds) : Sz (k + 1) (n + 3) (.tuple ds) := by
  refine ⟨h.sh, ?_, ?_⟩
  · show PyData.depthAll ds + 1 ≤ k + 1
    have := h.dp
    omega
  · show (tupleText (PyData.shownAll ds)).length ≤ _
    have h1 := tupleText_le (PyData.shownAll ds)
    have h4 := h.len
    omega
theorem Sz.str {y : Str} (h : Plain y) : Sz 0 (10 * y.length + 2) (.str y) := ⟨rfl, Nat.le_refl _, (Sm.str h).len⟩
theorem Sz.bool (b : Bool) : Sz 0 5 (.bool b) := ⟨rfl, Nat.le_refl _, (Sm.bool b).len⟩
theorem Sz.non : Sz 0 4 .none := ⟨rfl, Nat.le_refl _, by decide +kernel⟩
theorem SzL.all {k m : Nat} {α : Type} {f : α → PyData} : ∀ {xs : List α}, (∀ x ∈ xs, Sz k m (f x)) → SzL k ((m + 2) * xs.length) (xs.map f)
  | [], _ => ⟨rfl, Nat.zero_le _, Nat.zero_le _⟩
  | x :: xs, h => by
    have r := SzL.cons (h x List.mem_cons_self) (SzL.all (xs := xs) fun y hy => h y (List.mem_cons_of_mem _ hy))
    refine r.mono (Nat.le_refl _) ?_
    rw [List.length_cons, Nat.mul_succ]
    omega
/-- a picked value of some kind -/
structure Odv (H : Hp) (p : Addr) (v : V) (d : PyData) : Prop where
  dr : Dr H p v d
  short : Short v
  sz : Sz 3 1000 d
theorem Odv.bx {H H' : Hp} {p : Addr} {v : V} {d : PyData} (h : Odv H p v d) (b : ByX p H H') : Odv H' p v d := ⟨h.dr.bx b, h.short, h.sz⟩
theorem odv_non {H : Hp} {p : Addr} : Odv H p .non .none := ⟨.non, (fun _ e => by cases e), Sz.non.mono (by decide) (by decide)⟩
theorem odv_bl {H : Hp} {p : Addr} (b : Bool) : Odv H p (.bl b) (.bool b) := ⟨.bl b, (fun _ e => by cases e), (Sz.bool b).mono (by decide) (by decide)⟩
theorem odv_str {H : Hp} {p : Addr} {z : Str} (h : Plain z) (l : z.length ≤ 90) : Odv H p (.str z) (.str z) := ⟨.str z, (fun _ e => by cases e; exact Nat.le_trans l (by decide)), (Sz.str h).mono (by decide) (by omega)⟩
theorem odv_ref {H : Hp} {p a : Addr} {d : PyData} (h : Dr H p (.ref a) d) (s : Sz 3 1000 d) : Odv H p (.ref a) d := ⟨h, (fun _ e => by cases e), s⟩
end FL
/-! repr of lists that hold instances of own classes: each by its class's own text, within one another -/
namespace FL
open PySem PySem.Spec PyProof.Rows L2
/-- a place behind A0: the same frames, few units deeper -/
structure Near (A0 A : Around) (n : Nat) : Prop where
  fr : A.frames = A0.frames
  hd : A.handled = A0.handled
  dp : A.depth ≤ A0.depth + n
  un : A.units ≤ A0.units + n
theorem Near.refl (A : Around) : Near A A 0 := ⟨rfl, rfl, Nat.le_refl _, Nat.le_refl _⟩
theorem Near.more {A0 A : Around} {n m : Nat} (h : Near A0 A n) (l : n ≤ m) : Near A0 A m := ⟨h.fr, h.hd, Nat.le_trans h.dp (Nat.add_le_add_left l _), Nat.le_trans h.un (Nat.add_le_add_left l _)⟩
theorem Near.one {A0 A : Around} {n : Nat} (h : Near A0 A n) : Near A0 A.in1 (n + 1) := ⟨h.fr, h.hd, by have := h.dp; show A.depth ≤ _; omega, by have := h.un; show A.units + 1 ≤ _; omega⟩
theorem Near.loop {A0 A : Around} {n : Nat} (h : Near A0 A n) (args : Args) : Near A0 (A.under (.builtin "list.__repr__.loop" args)) (n + 1) := by
  have u := units_under_list_loop A args
  have w : (Code.builtin "list.__repr__.loop" args).weight ≤ 1 := by
    have g := isGuard_list_loop args
    unfold Code.weight
    rw [g]
    exact Nat.le_of_eq rfl
  refine ⟨?_, h.hd, ?_, by have := h.un; omega⟩
  · rw [← h.fr]
    show pushEnvs (Code.envs (.builtin "list.__repr__.loop" args)) A.frames = A.frames
    cases A.frames <;> rfl
  · have := h.dp
    show A.depth + (Code.builtin "list.__repr__.loop" args).weight ≤ _
    omega
theorem Near.room {A0 A : Around} {n k : Nat} (h : Near A0 A n) (l : n ≤ 12) (r : Room (k + 4) A0) : Room k A := by
  have h1 := r.dp
  have h2 := r.un
  have h3 := h.dp
  have h4 := h.un
  exact ⟨h.hd.trans r.hd, by omega, by omega⟩
theorem Near.env {P : Program} {w : World} {K : PySem.W.Frag} {mg : Str → Option Value} {base : Heap} {A0 A : Around} {n : Nat} {outer : List Env} {s : Shared} {H : Hp} (h : Near A0 A n) (e : Env0 P w K mg base A0 outer s H) : Env0 P w K mg base A outer s H :=
  ⟨h.fr.trans e.frames, e.mod, e.bs, e.bsz, e.funs, e.frf, e.hok, e.bare⟩
/-! ### what is no data: an instance, a list with one behind -/
inductive NonR (H : Hp) : Addr → Prop
  | ins {a C dx : Addr} {fs : List (Str × V)} : H a = some (.ins C dx fs) → NonR H a
  | lst {a b : Addr} {xs : List V} : H a = some (.lst xs) → V.ref b ∈ xs → NonR H b → NonR H a
theorem NonR.same {H H' : Hp} (s : Same H H') {a : Addr} (h : NonR H a) : NonR H' a := by
  induction h with
  | ins e => exact .ins (s _ _ e)
  | lst e m _ ih => exact .lst (s _ _ e) m ih
theorem reads_each {h : Heap} : ∀ {us : List Value} {ds : List PyData} {as : List Addr}, ReadsAll h us ds as → ∀ u ∈ us, ∃ d bs, Reads h u d bs
  | _, _, _, .nil, _, m => nomatch m
  | _, _, _, .cons r rs, u, m => by
    rcases List.mem_cons.mp m with rfl | m
    · exact ⟨_, _, r⟩
    · exact reads_each rs u m
section
variable {X : Cx} {pins : List (Addr × Obj)} {σ : L2.St} {H : Hp} {s : Shared}
theorem NonR.dark (I : Inv X pins σ H s) {a : Addr} (h : NonR H a) : ∀ d as, ¬ Reads s.heap (.ref a) d as := by
  induction h with
  | @ins a C dx fs e =>
    intro d as r
    obtain ⟨mA, O, _⟩ := ins_get I.hok e
    obtain ⟨od, J, _⟩ := O.look
    obtain ⟨ob, hc, _⟩ := J
    cases r with
    | list h1 h2 _ _ => rw [h1] at ob; cases ob; rw [hc] at h2; cases h2
    | tuple h1 h2 _ _ => rw [h1] at ob; cases ob; rw [hc] at h2; cases h2
    | dict h1 h2 _ _ _ => rw [h1] at ob; cases ob; rw [hc] at h2; cases h2
  | @lst a b xs e m _ ih =>
    intro d as r
    obtain ⟨its, rv, ⟨o, n, ho, hc, _, hd⟩, _⟩ := I.list (SqL.of e)
    obtain ⟨i, hi, he⟩ := List.mem_iff_getElem.mp m
    obtain ⟨u, hu, ru⟩ := rv.get (show xs[i]? = some (.ref b) by rw [List.getElem?_eq_getElem hi, he])
    obtain rfl : u = Value.ref b := ru
    have mu := List.mem_of_getElem? hu
    cases r with
    | list h1 h2 h3 h4 =>
      rw [h1] at ho
      cases ho
      rw [h3] at hd
      cases hd
      obtain ⟨d', bs, q⟩ := reads_each h4 _ mu
      exact ih _ _ q
    | tuple h1 h2 _ _ => rw [h1] at ho; cases ho; rw [h2] at hc; exact absurd (Value.type.inj hc) (by decide)
    | dict h1 h2 _ _ _ => rw [h1] at ho; cases ho; rw [h2] at hc; exact absurd (Value.type.inj hc) (by decide)
end
/-! ### what is shown while others are being shown -/
def GNR (g : List Code) (L : List Addr) (H : Hp) : Prop := ∀ id v rest kw, Code.builtin id ⟨v :: rest, kw⟩ ∈ g → ∃ b ∈ L, v = .ref b ∧ NonR H b
theorem GNR.nil {L : List Addr} {H : Hp} : GNR [] L H := fun _ _ _ _ m => nomatch m
theorem GNR.same {g : List Code} {L : List Addr} {H H' : Hp} (h : GNR g L H) (s : Same H H') : GNR g L H' := fun id v rest kw m => by
  obtain ⟨b, hb, e, n⟩ := h _ _ _ _ m
  exact ⟨b, hb, e, n.same s⟩
theorem GNR.cons {g : List Code} {L : List Addr} {H : Hp} {id : String} {a : Addr} {rest : List Value} {kw : List (Str × Value)} (h : GNR g L H) (n : NonR H a) : GNR (.builtin id ⟨.ref a :: rest, kw⟩ :: g) (a :: L) H := fun id' v rest' kw' m => by
  rcases List.mem_cons.mp m with e | m
  · cases e
    exact ⟨a, List.mem_cons_self, rfl, n⟩
  · obtain ⟨b, hb, e, nb⟩ := h _ _ _ _ m
    exact ⟨b, List.mem_cons_of_mem _ hb, e, nb⟩
theorem GNR.clear {X : Cx} {pins : List (Addr × Obj)} {σ : L2.St} {H : Hp} {s : Shared} {g : List Code} {L : List Addr} (h : GNR g L H) (I : Inv X pins σ H s) {b : Addr} {d : PyData} {as : List Addr} (r : Reads s.heap (.ref b) d as) : Clear g b := fun id v rest kw m e => by
  obtain ⟨c, _, q, n⟩ := h _ _ _ _ m
  rw [q] at e
  cases e
  exact n.dark I _ _ r
/-- x is shown as t, at most d lists deep, wherever the like is shown -/
def RepE (X : Cx) (d : Nat) (L : List Addr) (H : Hp) (x : V) (t : Str) : Prop :=
  ∀ (base : Nat), base + t.length ≤ sizeLine → ∀ (A : Around) (g : List Code) (E : Value → Shared → Prop) (pins : List (Addr × Obj)) (σ : L2.St) (G : Hp) (s : Shared) (u : Value) (Q : Str → Shared → Prop) (m : Nat),
    Near X.A A m → m + 2 * d ≤ 12 → A.guards = some g → GNR g L G → Same H G → Inv X pins σ G s → RelV x u →
    (∀ (s' : Shared) (G' : Hp), Same G G' → Inv X pins σ G' s' → Q t s') → wpAny (model X.prog X.w) A (pyReprUnder base u) Q E s
section
variable {X : Cx}
theorem repE_data {L : List Addr} {H : Hp} {x : V} {d : PyData} (hu : X.A.units + 100 < cLine) (hd : Dp X.K H x d) (nd : d.hasDict = false) (n : NiceD d) : RepE X 0 L H x d.shown := by
  intro base hb A g E pins σ G s u Q m nA lim hg gn sm I r k
  obtain ⟨as, rd⟩ := Dp.reads I d x u (Dp.same sm hd) r
  obtain ⟨bs, rb, rk⟩ := ReprK.of_reads (prog := X.prog) (w := X.w) rd n.1 (PyData.noDict_hsm nd) n.2.2
  refine rk base hb A g E s Q hg (fun b q => ?_) ?_ (fun _ _ e => e) fun h' tk kp => k { s with heap := h', toks := tk } G (Same.refl G) (I.kept kp)
  · obtain ⟨d', as', r', _⟩ := rb b q
    exact gn.clear I r'
  · have h1 := nA.un
    have h2 := n.2.1
    omega
theorem RepE.mono {d d' : Nat} {L : List Addr} {H : Hp} {x : V} {t : Str} (h : RepE X d L H x t) (l : d ≤ d') : RepE X d' L H x t :=
  fun base hb A g E pins σ G s u Q m nA lim => h base hb A g E pins σ G s u Q m nA (by omega)
theorem RepE.same {d : Nat} {L : List Addr} {H H' : Hp} {x : V} {t : Str} (h : RepE X d L H x t) (sm : Same H H') : RepE X d L H' x t :=
  fun base hb A g E pins σ G s u Q m nA lim hg gn s2 => h base hb A g E pins σ G s u Q m nA lim hg gn (sm.trans s2)
theorem loopE {L : List Addr} {d m base : Nat} {A : Around} {g : List Code} {a P : Addr} {pins : List (Addr × Obj)} {σ : L2.St} {H : Hp} {xs : List V} {ts : List Str} {R : Result → Shared → Prop} (nA : Near X.A A m) (lim : m + 2 * (d + 1) ≤ 12) (hg : A.guards = some g)
    (ha : H a = some (.lst xs)) (na : NonR H a) (len : ts.length = xs.length) (each : ∀ (i : Nat) (x : V), xs[i]? = some x → ∃ t, ts[i]? = some t ∧ RepE X d (a :: L) H x t) (fits : base + (listText ts).length ≤ sizeLine)
    (out : ∀ (s' : Shared) (G' : Hp) (tk : Tok), Same H G' → Inv X pins σ G' s' → R (.ok (.ret (.str (listText ts) tk))) s') :
    ∀ (k i : Nat) (s : Shared) (G : Hp) (acc : Array Value) (c : Nat) (told : List (Str × Tok)), xs.length - i = k → i ≤ xs.length → GNR g L G → Same H G → Inv X ((P, seqObj "list" acc c) :: pins) σ G s → Own X pins P →
      acc.toList = strValues told → told.map (·.1) = ts.take i →
      codeAny (model X.prog X.w) A (.builtin "list.__repr__.loop" ⟨[.ref a, rawInt i, .ref P, rawInt ((base + piled (ts.take i) : Nat) : Int)], []⟩) R s := by
  have wide : (listText ts).length = (textFrom 0 "[" ts).length + 1 := by
    show (textFrom 0 "[" ts ++ "]").length = _
    exact strLen_append _ _
  have tl := textFrom_len ts 0 "["
  have few : xs.length ≤ sizeLine := by
    have h1 := tl.1
    rw [if_neg (Nat.lt_irrefl 0)] at h1
    omega
  have each_fits : ∀ t ∈ ts, t.length ≤ sizeLine := fun t ht => by
    have h2 := tl.2.1 t ht
    omega
  have all_piled := piled_le_listText ts
  have whole : (listText ts).length ≤ sizeLine := by omega
  intro k
  induction k with
  | zero =>
    intro i s G acc c told hk hi gn sm I own ea et
    have ei : i = xs.length := by omega
    obtain ⟨its, rv, ⟨o, n, ho, hc, _, hd⟩, _⟩ := I.list (SqL.of (sm _ _ ha))
    have pk := I.pin (P, seqObj "list" acc c) (List.mem_append_right _ List.mem_cons_self)
    refine (codeAny_builtin F.entry_list_repr_loop ?_)
    show wpAny _ _ (Builtin.«list.__repr__.loop» ⟨[Value.ref a, .int i 0, .ref P, .int ((base + piled (ts.take i) : Nat) : Int) 0], []⟩) _ _ s
    rw [repr_loop_tree (Value.ref a)]
    refine wpAny_bind (wpAny_listItems ho hd ?_)
    have behind : its.toArray[(i : Int).toNat]? = none := by
      have e := rv.length
      simp [ei, e]
    simp only [behind]
    unfold reprEnd
    refine wpAny_bind (wpAny_listItems (o := seqObj "list" acc c) pk.1 rfl ?_)
    rw [ea, repr_fold told]
    refine wpAny_bind (wpAny_pure ?_)
    have all : told.map (·.1) = ts := by rw [et, ei, ← len, List.take_length]
    rw [all]
    exact wpAny_bind (wpAny_mkStr (wpAny_pure (out _ G _ sm ((drop_pin I).tok _))) whole)
  | succ k ih =>
    intro i s G acc c told hk hi gn sm I own ea et
    have here : i < xs.length := by omega
    have hx : xs[i]? = some xs[i] := List.getElem?_eq_getElem here
    obtain ⟨t, ht, sh⟩ := each i _ hx
    obtain ⟨its, rv, ⟨o, n, ho, hc, _, hd⟩, _⟩ := I.list (SqL.of (sm _ _ ha))
    obtain ⟨u, hu, ru⟩ := rv.get hx
    have p1 := piled_take_succ ht
    have p2 := piled_take_le ts (i + 1)
    refine (codeAny_builtin F.entry_list_repr_loop ?_)
    show wpAny _ _ (Builtin.«list.__repr__.loop» ⟨[Value.ref a, .int i 0, .ref P, .int ((base + piled (ts.take i) : Nat) : Int) 0], []⟩) _ _ s
    rw [repr_loop_tree (Value.ref a)]
    refine wpAny_bind (wpAny_listItems ho hd ?_)
    have it : its.toArray[(i : Int).toNat]? = some u := by
      rw [Int.toNat_natCast, List.getElem?_toArray]
      exact hu
    simp only [it]
    rw [Int.toNat_natCast (base + piled (ts.take i))]
    refine wpAny_bind (wpAny_holding (sh (base + piled (ts.take i) + 1) (by omega) _ _ _ _ _ _ _ _ _ _ (nA.loop _) (by omega) (guards_under_guard (isGuard_list_loop _) hg) ((gn.cons (na.same sm))) sm I ru fun s2 G2 sm2 I2 => ?_))
    refine wpAny_bind (wpAny_mkStr ?_ (each_fits t (List.mem_of_getElem? ht)))
    have pk := I2.pin (P, seqObj "list" acc c) (List.mem_append_right _ List.mem_cons_self)
    have accz : acc.size ≤ sizeLine := by
      have e1 : acc.toList.length = acc.size := Array.length_toList
      have e2 : (strValues told).length = told.length := by simp [strValues]
      have e3 : told.length = (ts.take i).length := by rw [← et, List.length_map]
      have e4 : (ts.take i).length ≤ i := by rw [List.length_take]; omega
      rw [ea] at e1
      omega
    have sb := Heap.SameBut.update s2.heap P (Obj.mapSeq (·.push (Value.str t s2.toks)))
    obtain ⟨c2, hc2⟩ : ∃ c2, (s2.heap.update P (Obj.mapSeq (·.push (Value.str t s2.toks)))).get? P = some (seqObj "list" (acc.push (Value.str t s2.toks)) c2) := ⟨_, get?_update_seq pk.1 (·.push (Value.str t s2.toks))⟩
    refine wpAny_bind (listUpdate_at pk.1 rfl ?_ accz (Nat.le_trans (Nat.le_of_eq (Array.size_push ..)) (Nat.succ_le_succ accz)))
    refine wpAny_pure ⟨F.quiet_list_repr_loop _, ?_⟩
    have e1 : ((i : Int) + 1) = ((i + 1 : Nat) : Int) := rfl
    have e2 : base + piled (ts.take i) + (t.length + 2) = base + piled (ts.take (i + 1)) := by omega
    rw [e1, e2]
    exact ih (i + 1) _ G2 (acc.push (Value.str t s2.toks)) c2 (told ++ [(t, s2.toks)]) (by omega) here (gn.same sm2) (sm.trans sm2) (re_pin (s := { s2 with toks := s2.toks + 1 }) (t' := s2.toks + 1) (I2.tok _) own sb hc2 seq_nd) own (by simp [ea, strValues]) (by simp [List.take_add_one, ht, et])
theorem repE_list {d : Nat} {L : List Addr} {H : Hp} {a : Addr} {xs : List V} {ts : List Str} (hu : X.A.units + 100 < cLine) (ha : H a = some (.lst xs)) (na : NonR H a) (out : a ∉ L) (len : ts.length = xs.length)
    (each : ∀ (i : Nat) (x : V), xs[i]? = some x → ∃ t, ts[i]? = some t ∧ RepE X d (a :: L) H x t) : RepE X (d + 1) L H (.ref a) (listText ts) := by
  intro base hb A g E pins σ G s u Q m nA lim hg gn sm I r k
  obtain rfl : u = Value.ref a := r
  obtain ⟨its, rv, ⟨o, n, ho, hc, _, hd⟩, _⟩ := I.list (SqL.of (sm _ _ ha))
  have room := nA.un
  refine wpAny_pyReprUnder_ref (by omega) ?_
  refine wpAny_pyReprObjUnder_twin (twin := "list.__repr__.under") ⟨o, ho, hc⟩ F.slot_list_repr.toG rfl (by omega) ?_
  refine call_twin_plain F.plain_list_repr_under F.entry_list_repr_under F.check_list_repr_under ⟨o, ho, hc⟩ F.slot_list_repr.toG (F.args_list_repr_1 _) ?_
  obtain ⟨v0, vs, ev⟩ : ∃ v0 vs, its = v0 :: vs := by
    cases its with
    | cons v0 vs => exact ⟨v0, vs, rfl⟩
    | nil =>
      cases rv
      cases na with
      | ins e => rw [ha] at e; cases e
      | lst e m _ => rw [ha] at e; cases e; cases m
  subst ev
  refine wpAny_list_repr_head (A := A.in1) hg (fun v rest kw q => ?_) ho hd ?_
  · obtain ⟨b, hb, e, nb⟩ := gn _ _ _ _ q
    refine listSameRef_of_ne fun e2 => ?_
    rw [e] at e2
    cases e2
    exact out hb
  refine wpAny_bind (m := newList []) (wpAny_newObj_type ?_)
  refine wpAny_pure ⟨F.quiet_list_repr_loop _, ?_⟩
  have fresh : G s.heap.objs.size = none := I.hok.fresh (Nat.le_refl _)
  have own : Own X pins s.heap.objs.size := Own.of I (Nat.le_refl _)
  have I1 : Inv X pins σ G { s with heap := s.heap.push (seqObj "list" #[] 0) } := I.kept (t' := s.toks) fun _ _ q => Heap.get?_push_of_some _ q
  have I2 := put_pin I1 own (Heap.get?_push_size _ rfl) fresh seq_nd
  exact loopE (base := base) (ts := ts) nA lim hg (sm _ _ ha) (na.same sm) len (fun i x e => (each i x e).imp fun t q => ⟨q.1, q.2.same sm⟩) hb (fun s' G' tk s2 J => ⟨⟨_, _, rfl⟩, _, _, rfl, k s' G' s2 J⟩) _ 0 _ G #[] 0 [] rfl (Nat.zero_le _) gn (Same.refl G) I2 own rfl rfl
/-- repr of a list that holds such things -/
theorem call_reprE (hG : X.A.guards = some []) (hu : X.A.units + 100 < cLine) :
    CallR X (.builtin "repr") (fun us H Q => ∃ (a : Addr) (xs : List V) (ts : List Str) (d : Nat), us = [.ref a] ∧ H a = some (.lst xs) ∧ NonR H a ∧ ts.length = xs.length ∧ d ≤ 4 ∧ (∀ (i : Nat) (x : V), xs[i]? = some x → ∃ t, ts[i]? = some t ∧ RepE X d [a] H x t) ∧
      (listText ts).length ≤ sizeLine ∧ ∀ H', Same H H' → Q (.str (listText ts)) H') := by
  intro pins s σ H us ws Q I r h
  obtain ⟨a, xs, ts, d, rfl, ha, na, len, hd4, each, fits, q⟩ := h
  cases r with
  | cons r1 r2 =>
  cases r2
  cases r1
  obtain ⟨its, rv, ⟨o, n, ho, hc, _, hd⟩, _⟩ := I.list (SqL.of ha)
  refine call_repr_slot (by omega) ⟨o, ho, hc⟩ F.slot_list_repr.toG ?_
  refine wpAny_call (codeAny_call_builtin F.slot_list_repr.plain F.entry_list_repr (F.slot_list_repr.check _ _ _ _ _ _ _ _ ⟨o, ho, hc⟩ (F.args_list_repr_1 _) ?_))
  obtain ⟨v0, vs, ev⟩ : ∃ v0 vs, its = v0 :: vs := by
    cases its with
    | cons v0 vs => exact ⟨v0, vs, rfl⟩
    | nil =>
      cases rv
      cases na with
      | ins e => rw [ha] at e; cases e
      | lst e m _ => rw [ha] at e; cases e; cases m
  subst ev
  refine wpAny_list_repr_head (A := X.A.in1.in1) (b := 0) (g := []) hG (fun v rest kw m => nomatch m) ho hd ?_
  refine wpAny_bind (m := newList []) (wpAny_newObj_type ?_)
  refine wpAny_pure ⟨F.quiet_list_repr_loop _, ?_⟩
  have fresh : H s.heap.objs.size = none := I.hok.fresh (Nat.le_refl _)
  have own : Own X pins s.heap.objs.size := Own.of I (Nat.le_refl _)
  have I1 : Inv X pins σ H { s with heap := s.heap.push (seqObj "list" #[] 0) } := I.kept (t' := s.toks) fun _ _ q => Heap.get?_push_of_some _ q
  have I2 := put_pin I1 own (Heap.get?_push_size _ rfl) fresh seq_nd
  exact loopE (L := []) (base := 0) (ts := ts) (Near.refl X.A).one (by omega) hG ha na len each (by omega) (fun s' G' tk s2 J => ⟨_, _, rfl, .str (listText ts), G', J, ⟨_, rfl⟩, q G' s2⟩) _ 0 _ H #[] 0 [] rfl (Nat.zero_le _) GNR.nil (Same.refl H) I2 own rfl rfl
end
end FL
/-! a class's own text, told while lists that hold its instances are being shown -/
namespace FL
open PySem PySem.Spec PyProof.Rows L2
/-- a promise that is kept while the lists of L are being shown -/
structure FnN (P : Program) (w : World) (K : PySem.W.Frag) (mg : Str → Option Value) (base : Heap) (L : List Addr) (k : Nat) (f : Addr) (fd : FuncData) (ps : List Str) (sp : Sp) : Prop where
  size : ∀ vs H Q E, sp vs H Q E → vs.length = ps.length
  goes : ∀ (A : Around) (outer : List Env) (s : Shared) (H : Hp) (args : Args) (us : List Value) (vs : List V) (Q : VK) (E : XK) (g : List Code), Room k A → A.guards = some g → GNR g L H → Env0 P w K mg base A outer s H →
    BindsTo s fd args (ps.zip us) → Vals vs us → sp vs H Q E → codeAny (model P w) A (.call (.ref f) args) (CR CX0 outer P w H s Q E) s
theorem FnN.toG {P : Program} {w : World} {K : PySem.W.Frag} {mg : Str → Option Value} {base : Heap} {L : List Addr} {k : Nat} {f : Addr} {fd : FuncData} {ps : List Str} {sp : Sp} (F : FnN P w K mg base L k f fd ps sp) : FnG P w K mg base CX0 k f fd ps sp :=
  ⟨F.size, fun A o s H a us vs Q E hr hg => F.goes A o s H a us vs Q E [] hr hg GNR.nil⟩
theorem okN {P : Program} {w : World} {K : PySem.W.Frag} {mg : Str → Option Value} {base : Heap} {L : List Addr} {x qual : Str} {st : Stmt} {f : Addr} {fd : FuncData} {N ps : List Str} {k : Nat} {sp : Sp} (F : Fun K x qual st f fd) (S : FnScope N ps (defScope st))
    (size : ∀ vs H Q E, sp vs H Q E → vs.length = ps.length)
    (body : ∀ (cdv : Value) (A : Around) (outer : List Env) (s : Shared) (H : Hp) (vs : List V) (Q : VK) (E : XK) (g : List Code), Room k (A.deeper (envOfC qual (defScope st) s.heap.objs.size f cdv)) → A.guards = some g → GNR g L H → sp vs H Q E →
      ∃ t, PSs (cxOf CX0 P w K mg base N qual (defScope st) f cdv A outer s H E).nox (defBody st) t ∧ t { nx := fun _ H' => Q .non H', rt := Q } (start N vs) H) : FnN P w K mg base L (k + 1) f fd ps sp := by
  obtain ⟨oc, od, kV, doc, pm, an, cdv, ct, osl, rfl, lk, hcd⟩ := F.ex
  refine ⟨size, fun A outer s H args us vs Q E g hr hg gn e0 hb r wish => LamX.run_ofS (k := k) lk hcd S hr e0 hb r (size _ _ _ _ wish) fun room => ?_⟩
  obtain ⟨t, h1, h2⟩ := body cdv A outer s H vs Q E g room hg gn wish
  exact ⟨t, h1.nox, h2⟩
/-! {e!r} of a list of data, while others are being shown -/
def tFmtN (K : PySem.W.Frag) (g : List Code) (L : List Addr) (te : TE) : TE := fun σ H Q => te σ H fun x H1 => ∃ a xs ds, x = .ref a ∧ SqL K H1 a xs ∧ DpAll K H1 xs ds ∧ (PyData.list ds).hasDict = false ∧ NiceD (.list ds) ∧ GNR g L H1 ∧ Q (.str (PyData.list ds).shown) H1
section
variable {X : Cx}
theorem pe_fmtN {e : Expr} {te : TE} {pos : Pos} {g : List Code} {L : List Addr} (hG : X.A.guards = some g) (hu : X.A.units + 64 < cLine) (he : PE X e te) : PE X (.FormattedValue e 114 none pos) (tFmtN X.K g L te) := by
  refine ⟨fun pins s σ H Q I h => wpAny_FormattedValue_repr (thn (he.run pins s σ H _ I h) fun v s1 hv => ?_)⟩
  obtain ⟨x, H1, I1, r1, a, xs, ds, rfl, hs, ha, nd, nice, gn, q⟩ := hv
  obtain ⟨n1, n2, n3⟩ := nice
  obtain ⟨as, rd⟩ := Dp.reads I1 (.list ds) (.ref a) v (.lst hs ha) r1
  cases r1
  have out : ∀ (h' : Heap) (u : Tok) (tk : Nat), (∀ b o, s1.heap.get? b = some o → h'.get? b = some o) →
      wpAny (model X.prog X.w) X.A (formatField (.str (PyData.list ds).shown u) Str.empty) (EP X pins σ Q) X.xe { s1 with heap := h', toks := tk } := fun h' u tk kp => by
    have I2 : Inv X pins σ H1 { s1 with heap := h', toks := tk } := I1.kept kp
    exact wpAny_formatField_str ⟨.str (PyData.list ds).shown, H1, I2, ⟨u, rfl⟩, q⟩ ⟨.str (PyData.list ds).shown, H1, I2.tok _, ⟨_, rfl⟩, q⟩ n3
  cases rd with
  | @list _ o us n _ as h1 h2 h3 h4 =>
    have r : Reads s1.heap (.ref a) (.list ds) (a :: as) := .list h1 h2 h3 h4
    have hz : (listText (PyData.shownAll ds)).length ≤ sizeLine := by simpa only [PyData.shown] using n3
    obtain ⟨bs, rb, rk⟩ := ReprAllK.of_readsAll (prog := X.prog) (w := X.w) h4 (by simpa [PyData.showable] using n1) (fun y => by rw [show PyData.hasDictAll ds = false by simpa [PyData.hasDict] using nd] at y; cases y) fun t ht => Nat.le_trans (listText_mem_le ht) hz
    have deep : PyData.depthAll ds + 1 ≤ 40 := by simpa only [PyData.depth] using n2
    have na : a ∉ bs := not_mem_of_deeper r (by simp only [PyData.depth]; omega) rb
    have cl : ∀ b ∈ a :: bs, Clear g b := fun b hb => by
      rcases List.mem_cons.mp hb with rfl | hb
      · exact gn.clear I1 r
      · obtain ⟨d', as', r', _⟩ := rb b hb
        exact gn.clear I1 r'
    obtain ⟨l⟩ := us
    cases l with
    | nil =>
      have h4' : ReadsAll s1.heap [] ds as := h4
      cases h4'
      have e : (PyData.list []).shown = "[]" := by simp only [PyData.shown, PyData.shownAll, listText_nil]
      refine wpAny_pyReprObj_list_empty ⟨o, h1, h2⟩ (by omega) h1 h3 ?_
      have o2 := out s1.heap s1.toks (s1.toks + 1) fun _ _ z => z
      rw [e] at o2
      exact o2
    | cons v0 vs =>
      refine wpAny_pyReprObj_listK h1 h2 h3 na (by simpa using rk.length_eq) (fun i y z => rk.item i y (by simpa using z)) hG cl (by omega) (fun _ _ z => z) (fun h' u tk kp => ?_) hz
      have o2 := out h' u tk kp
      simp only [PyData.shown] at o2
      exact o2
/-- an instance, by its class's own text -/
theorem repE_inst {C f : Addr} {fd : FuncData} {k : Nat} {sp : Sp} {L : List Addr} {H : Hp} {p dx : Addr} {fs : List (Str × V)} {t : Str} (F : FnN X.prog X.w X.K X.mg X.base L k f fd ["self"] sp) (hb : L2.Binds X.K fd ["self"] []) (hr : Room (k + 4) X.A)
    (hs : PySem.W.findIn X.K (.ref C) "__repr__" = some (some (.ref f))) (hf : PySem.W.isFn X.K (.ref f) = true) (hp : H p = some (.ins C dx fs)) (tells : ∀ G, Same H G → sp [.ref p] G (fun v G' => v = .str t ∧ Same G G') E0) : RepE X 0 L H (.ref p) t := by
  intro base hz A g E pins σ G s u Q m nA lim hg gn sm I r q
  obtain rfl : u = Value.ref p := r
  obtain ⟨mA, O, _⟩ := ins_get I.hok (sm _ _ hp)
  obtain ⟨od, J, _⟩ := O.look
  have room := nA.room (k := k) (by omega) hr
  refine wpAny_pyReprUnder_ref (by omega) ?_
  have back : wpAny (model X.prog X.w) A (call (.ref f) [.ref p]) (fun v s' => ∃ y, v = .str t y ∧ ∃ G', Same G G' ∧ Inv X pins σ G' s') E s := by
    refine wpAny_call (codeAny_mono (F.goes A X.stack s G ⟨[.ref p], []⟩ [.ref p] [.ref p] _ _ g room hg gn (nA.env I.env0) (hb s [.ref p] I.kIn rfl) (.cons rfl .nil) (tells G sm)) ?_)
    rintro (er | fl) s2 z
    · exact False.elim z
    · cases fl with
      | ret v =>
        obtain ⟨x, G', I2, rx, rfl, s2⟩ := I.after z
        obtain ⟨y, rfl⟩ := rx
        exact ⟨y, rfl, G', s2, I2⟩
      | _ => exact False.elim z
  unfold pyReprObjUnder pyReprObjBy
  refine wpAny_bind (wpAny_cRoomFor (by have := room.un; omega) ?_)
  refine wpAny_bind (wpAny_bind (J.type.here ((PySem.W.looks_findIn I.kIn hs).here ?_)))
  show wpAny _ _ (if (some (Value.ref f)).isNone = true then _ else _) _ _ s
  rw [if_neg (show ¬ (some (Value.ref f)).isNone = true by simp)]
  refine wpAny_bind (m := callSpecialIfBoundBy? _ (.ref p) (Str.ofString "__repr__")) ?_
  simp only [callSpecialIfBoundBy?, bindSpecialIfBound?]
  refine wpAny_holding (wpAny_bind (wpAny_bind (wpAny_bind (J.type.here ((PySem.W.looks_findIn I.kIn hs).here ?_)))))
  refine wpAny_bind (wpAny_askSetting (wpAny_ite ?_))
  have fin : wpAny (model X.prog X.w) A (call (.ref f) ([Value.ref p] ++ []) >>= fun v => pure (some v)) (fun r s' => ∃ y, r = some (.str t y) ∧ ∃ G', Same G G' ∧ Inv X pins σ G' s') E s := wpAny_bind (wpAny_mono back (fun v s' ⟨y, e, z⟩ => wpAny_pure ⟨y, by rw [e], z⟩) fun _ _ e => e)
  have last : ∀ (r : Option Value) (s' : Shared), (∃ y, r = some (.str t y) ∧ ∃ G', Same G G' ∧ Inv X pins σ G' s') →
      wpAny (model X.prog X.w) A (match r with | some r => (do if ← isInstance r (.type "str") then pure r else raiseError "TypeError" s!"__repr__ returned non-string (type {← typeNameOf r})") | none => unsupported "repr:special-get-raises") (fun v s' => ∃ x u, v = .str x u ∧ Q x s') E s' := by
    rintro _ s' ⟨y, rfl, G', sg, J'⟩
    exact wpAny_bind (wpAny_isInstance (T := "str") (b := true) rfl isSubtype_str_str (wpAny_pure ⟨_, _, rfl, q s' G' sg J'⟩))
  split
  · refine wpAny_bind ((PySem.W.bind_fn I.kIn _ (beq_iff_eq.mp hf)).here (wpAny_pure ?_))
    exact wpAny_mono fin last fun _ _ e => e
  · refine wpAny_tryCatch (wpAny_bind ((PySem.W.bind_fn I.kIn _ (beq_iff_eq.mp hf)).here (wpAny_pure ?_)))
    exact wpAny_mono fin last fun _ _ e => e
end
end FL
namespace K23
open PySem PySem.Spec PyProof.Rows L2 FL
open LamX
/-! ### a list that holds relays, as its text -/
theorem listText_le (ts : List Str) : (listText ts).length ≤ piled ts + 2 := by
  unfold listText
  rw [strLen_append]
  have h1 := textFrom_le ts 0 "["
  have h2 : (("[" : String) : Str).length = 1 := rfl
  have h3 : (("]" : String) : Str).length = 1 := rfl
  omega
theorem reprR_len {z : Str} {rs : List Rule} (az : Abc z) (rp : RP 40 rs) (lr : rs.length ≤ 400) : (reprR z rs).length ≤ 400060 := by
  have l1 : (reprText z).length ≤ 42 := repr_abc az
  have l2 : ((PyData.list (rs.map ruleD)).shown).length ≤ 400000 := (rp.sm40 lr).len
  have e1 : (Str.ofString "Relay(").length = 6 := by decide +kernel
  have e2 : (Str.ofString ", ").length = 2 := by decide +kernel
  have e3 : (Str.ofString ")").length = 1 := by decide +kernel
  have e0 : Str.empty.length = 0 := by decide +kernel
  unfold reprR
  rw [len_app, len_app, len_app, len_app, len_app]
  omega
section
variable {P : Program} {w : World} {K : PySem.W.Frag} {mg : Str → Option Value} {base : Heap}
theorem ok_reprN {f C : Addr} {fd : FuncData} (F : Fun K "__repr__" "Relay.__repr__" sRepr f fd) (T : RTxt K mg C) (L : List Addr) : FnN P w K mg base L 1 f fd ["self"] (spReprR C) := by
  refine okN F scRepr (fun vs H Q E h => ?_) (fun cdv A outer s H vs Q E g hr hg gn h => ?_)
  · obtain ⟨_, _, _, rfl, _⟩ := h
    rfl
  · obtain ⟨p, z, rs, rfl, ⟨dx, ra, ia, xs, h1, h2, h3, h4⟩, az, rp, lr, k⟩ := h
    have sz : sizeLine = 16777216 := rfl
    refine ⟨_, pss_one (ps_ret (pe_joined (.cons pe_str (.cons (pe_fmtR (pe_fld (pv 0) rfl)) (.cons pe_str (.cons (pe_fmtN (L := L) hg hr.units (pe_fld (pv 0) rfl)) (.cons pe_str .nil))))))), ?_⟩
    have l1 : (reprText z).length ≤ 42 := repr_abc az
    have sm := rp.sm40 lr
    have l2 : ((PyData.list (rs.map ruleD)).shown).length ≤ 400000 := sm.len
    have e1 : (Str.ofString "Relay(").length = 6 := by decide +kernel
    have e2 : (Str.ofString ", ").length = 2 := by decide +kernel
    have e3 : (Str.ofString ")").length = 1 := by decide +kernel
    have e0 : Str.empty.length = 0 := by decide +kernel
    refine ⟨_, rfl, (by rw [len_app, sz]; omega), ?_⟩
    refine ⟨_, rfl, p, C, dx, _, _, rfl, h1, T.cl, T.nS, flds_signs z ra ia, .inl ⟨z, rfl, (by rw [sz]; omega), _, rfl, (by rw [len_app, len_app, sz]; omega), ?_⟩⟩
    refine ⟨_, rfl, (by rw [len_app, len_app, len_app, sz]; omega), ?_⟩
    refine ⟨_, rfl, p, C, dx, _, _, rfl, h1, T.cl, T.nR, flds_rules z ra ia, ra, xs, _, rfl, SqL.of h2, dp_rules h3, sm.nd, sm.nice (by decide), gn, _, rfl, (by rw [len_app, len_app, len_app, len_app, sz]; omega), ?_⟩
    refine ⟨_, rfl, (by rw [len_app, len_app, len_app, len_app, len_app, sz]; omega), ?_⟩
    exact k
end
/-! ### _law_right -/
theorem make_ra {C : Addr} {H : Hp} {W : Addr → Hp → Prop} {z : Str} {v : V} {rs : List Rule} (hz : Abc z) (ra : RuArg H v rs) (ok : ∀ r ∈ rs, RuleOk z 40 r) (l : rs.length ≤ 400) (k : ∀ (x : Addr) (H' : Hp) (a : Addr), H x = none → H a = none → RelayR C H' x z rs a → Same H H' → W x H') :
    ∀ x dx, H x = none → H dx = none → dx ≠ x → spInit C [.ref x, .str z, v] (upd (upd H dx (.own x)) x (.ins C dx [])) (fun v H3 => v = .non ∧ W x H3) E0 := fun x dx hx hd hne => by
  have s2 : Same H (upd (upd H dx (.own x)) x (.ins C dx [])) := ((Same.refl H).upd hd).upd hx
  refine ⟨x, dx, z, v, rs, rfl, upd_same, hz, ?_, ok, l, fun H' a rel na b => ⟨rfl, k x H' a hx (s2.none na) rel fun c o e => b c o (s2 c o e) (ne_of_none e hx)⟩⟩
  obtain ⟨a, xs, t, rfl, ea, hrs⟩ := ra
  exact ⟨a, xs, t, rfl, s2 _ _ ea, Same.rules s2 hrs⟩
theorem dl_wide {z : Str} {rs : List Rule} (h : z.length < 4) (l : rs.length ≤ 3) (o : ∀ r ∈ rs, RuleOk z ((2 : Int).toNat + 2) r ∧ r.old.length ≤ (2 : Int).toNat) : Dl3 z rs :=
  ⟨l, fun r hr => (o r hr).1, fun r hr => by unfold most2; rw [if_pos h]; exact (o r hr).2⟩
theorem dl_slim {z : Str} {rs : List Rule} (h : ¬ z.length < 4) (l : rs.length ≤ 3) (o : ∀ r ∈ rs, RuleOk z ((1 : Int).toNat + 2) r ∧ r.old.length ≤ (1 : Int).toNat) : Dl3 z rs :=
  ⟨l, fun r hr => (o r hr).1.mono (by decide), fun r hr => by unfold most2; rw [if_neg h]; exact (o r hr).2⟩
theorem paired3 {α β : Type} {R : α → β → Prop} {vs : List α} {ws : List β} (h : Paired R vs ws) (l : vs.length = 3) : ∃ v0 v1 v2 w0 w1 w2, vs = [v0, v1, v2] ∧ ws = [w0, w1, w2] ∧ R v0 w0 ∧ R v1 w1 ∧ R v2 w2 := by
  cases h with
  | nil => cases l
  | cons a h => cases h with
    | nil => cases l
    | cons b h => cases h with
      | nil => cases l
      | cons c h => cases h with
        | nil => exact ⟨_, _, _, _, _, _, rfl, rfl, a, b, c⟩
        | cons d h => simp at l
def LotAt (H : Hp) (C : Addr) (v : V) (rs : List Rule) : Prop := ∃ (D : Addr) (xs : List V), v = .ref D ∧ D ≠ C ∧ H D = some (.lst xs) ∧ RulesAt H xs rs
def PlanAt (C : Addr) (H : Hp) (z : Str) (L : Addr) (v : V) (rs : List Rule) : Prop := ∃ x ra : Addr, v = .ref x ∧ RelayR C H x z rs ra ∧ ra ≠ L
structure DealA (z : Str) (D : Addr) (xs : List V) (rs : List Rule) (H : Hp) : Prop where
  g : H D = some (.lst xs)
  r : RulesAt H xs rs
  d : Dl3 z rs
theorem DealA.byX {p D : Addr} {z : Str} {xs : List V} {rs : List Rule} {H H' : Hp} (a : DealA z D xs rs H) (hp : PotAt H p) (b : ByX p H H') : DealA z D xs rs H' :=
  ⟨b _ _ a.g (fun e => pot_list hp (by rw [← e]; exact a.g) a.r) not_tbl_l, rules_byX hp b a.r, a.d⟩
/-- where one stands: three lists of rules, three relays -/
structure Rt (C p Lt Lp D0 D1 D2 x0 x1 x2 : Addr) (T : List (Addr × Str)) (z : Str) (ys0 ys1 ys2 : List V) (r0 r1 r2 : List Rule) (H0 H : Hp) : Prop where
  pot : PotAt H p
  tab : Tabs T H
  by_ : ByX p H0 H
  gL : H Lt = some (.lst [.ref D0, .ref D1, .ref D2])
  gP : H Lp = some (.lst [.ref x0, .ref x1, .ref x2])
  a0 : DealA z D0 ys0 r0 H
  a1 : DealA z D1 ys1 r1 H
  a2 : DealA z D2 ys2 r2 H
  b0 : RelayAt C H x0 z r0
  b1 : RelayAt C H x1 z r1
  b2 : RelayAt C H x2 z r2
section
variable {C p Lt Lp D0 D1 D2 x0 x1 x2 : Addr} {T : List (Addr × Str)} {z : Str} {ys0 ys1 ys2 : List V} {r0 r1 r2 : List Rule} {H0 H H' : Hp}
theorem Rt.byX (o : Rt C p Lt Lp D0 D1 D2 x0 x1 x2 T z ys0 ys1 ys2 r0 r1 r2 H0 H) (hp : PotAt H' p) (t : Tabs T H') (y : ByX p H H') : Rt C p Lt Lp D0 D1 D2 x0 x1 x2 T z ys0 ys1 ys2 r0 r1 r2 H0 H' :=
  ⟨hp, t, o.by_.trans y, lst_byX o.pot y o.gL List.mem_cons_self, lst_byX o.pot y o.gP List.mem_cons_self, o.a0.byX o.pot y, o.a1.byX o.pot y, o.a2.byX o.pot y, relay_byX o.pot y o.b0, relay_byX o.pot y o.b1, relay_byX o.pot y o.b2⟩
theorem Rt.same (o : Rt C p Lt Lp D0 D1 D2 x0 x1 x2 T z ys0 ys1 ys2 r0 r1 r2 H0 H) (s : Same H H') : Rt C p Lt Lp D0 D1 D2 x0 x1 x2 T z ys0 ys1 ys2 r0 r1 r2 H0 H' := o.byX (FL.Same.pot s o.pot) (o.tab.ext s) (.same s)
theorem Rt.but (o : Rt C p Lt Lp D0 D1 D2 x0 x1 x2 T z ys0 ys1 ys2 r0 r1 r2 H0 H) (hp : PotAt H' p) (y : But p H H') : Rt C p Lt Lp D0 D1 D2 x0 x1 x2 T z ys0 ys1 ys2 r0 r1 r2 H0 H' := o.byX hp (tabs_butX o.tab o.pot y) (.but y)
end
def tellP (z : Str) (r0 r1 r2 : List Rule) : Str := listText [reprR z r0, reprR z r1, reprR z r2]
def tellL (r0 r1 r2 : List Rule) : Str := (PyData.list [.list (r0.map ruleD), .list (r1.map ruleD), .list (r2.map ruleD)]).shown
def tellA (z : Str) (r0 r1 r2 : List Rule) : Str := listText [tellP z r0 r1 r2, tellL r0 r1 r2]
theorem Dl3.rp {z : Str} {rs : List Rule} (az : Abc z) (d : Dl3 z rs) : RP 40 rs := fun r hr => ⟨az.plain (d.rok.ok r hr).o1, az.plain (d.rok.ok r hr).n1, (d.rok.ok r hr).o2, (d.rok.ok r hr).n2⟩
theorem lot_sm {z : Str} {r0 r1 r2 : List Rule} (az : Abc z) (d0 : Dl3 z r0) (d1 : Dl3 z r1) (d2 : Dl3 z r2) : Sm 1500000 (.list [.list (r0.map ruleD), .list (r1.map ruleD), .list (r2.map ruleD)]) := by
  have s : ∀ {r : List Rule}, Dl3 z r → Sm 400000 (.list (r.map ruleD)) := fun d => (d.rp az).sm40 d.rok.few
  have dp : ∀ {r : List Rule}, Dl3 z r → (PyData.list (r.map ruleD)).depth ≤ 2 := fun d => rule_dp (d.rp az)
  exact (Sm.list (k := 2) (SmL.cons (s d0) (dp d0) (SmL.cons (s d1) (dp d1) (SmL.cons (s d2) (dp d2) SmL.nil))) (by decide)).mono (by decide)
theorem tellA_len {z : Str} {r0 r1 r2 : List Rule} (az : Abc z) (d0 : Dl3 z r0) (d1 : Dl3 z r1) (d2 : Dl3 z r2) : (tellA z r0 r1 r2).length ≤ sizeLine := by
  have l : ∀ {r : List Rule}, Dl3 z r → (reprR z r).length ≤ 400060 := fun d => reprR_len az (d.rp az) d.rok.few
  have l0 := l d0
  have l1 := l d1
  have l2 := l d2
  have lp : (tellP z r0 r1 r2).length ≤ 1200200 := by
    have := listText_le [reprR z r0, reprR z r1, reprR z r2]
    rw [piled_cons, piled_cons, piled_cons, piled_nil] at this
    unfold tellP
    omega
  have ll : (tellL r0 r1 r2).length ≤ 1500000 := (lot_sm az d0 d1 d2).len
  have := listText_le [tellP z r0 r1 r2, tellL r0 r1 r2]
  rw [piled_cons, piled_cons, piled_nil] at this
  have sz : sizeLine = 16777216 := rfl
  unfold tellA
  omega
abbrev sRight : Stmt := topS 71
abbrev sLaw : Stmt := topS 72
def spRight (T : List (Addr × Str)) : Sp := fun vs H Q _ => ∃ p : Addr, vs = [.ref p] ∧ PotAt H p ∧ Tabs T H ∧ ∀ H', PotAt H' p → Tabs T H' → ByX p H H' → Q (.bl true) H'
def spLawT (K : PySem.W.Frag) (T : List (Addr × Str)) : Sp := fun vs H Q _ => ∃ (a : Addr) (ns : List Int), vs = [.ref a] ∧ SqL K H a (ns.map V.int) ∧ ns.length ≤ 63 ∧ Tabs T H ∧ ∀ H', Q (.bl true) H'
abbrev nRight : List Str := ["_law_pot_here", "_law_abc_here", "_law_turn_here", "_law_lot", "_law_plans", "_law_kept_text", "_law_more", "_law_deals_here"]
theorem scRight : FnScope nRight ["_law_pot_here"] (defScope sRight) := ⟨rfl, rfl, rfl, by decide +kernel, rfl, by decide +kernel, by decide +kernel⟩
theorem scLaw : FnScope ["_law_script", "_law_k"] ["_law_script"] (defScope sLaw) := ⟨rfl, rfl, rfl, by decide +kernel, rfl, by decide +kernel, by decide +kernel⟩
section
variable {P : Program} {w : World} {K : PySem.W.Frag} {mg : Str → Option Value} {base : Heap}
/-- what the text asks -/
theorem tells {X : Cx} (R : RelF X.prog X.w X.K X.mg X.base) (hN : ∀ L, FnN X.prog X.w X.K X.mg X.base L 1 R.fz R.dz ["self"] (spReprR R.C)) (hr : Room 5 X.A) {p Lt Lp D0 D1 D2 x0 x1 x2 : Addr} {T : List (Addr × Str)} {z : Str} {ys0 ys1 ys2 : List V} {r0 r1 r2 : List Rule} {H0 H : Hp} (az : Abc z)
    (o : Rt R.C p Lt Lp D0 D1 D2 x0 x1 x2 T z ys0 ys1 ys2 r0 r1 r2 H0 H) {M : Addr} (hM : H M = none) :
    Same H (upd H M (.lst [.ref Lp, .ref Lt])) ∧ upd H M (.lst [.ref Lp, .ref Lt]) M = some (.lst [.ref Lp, .ref Lt]) ∧ NonR (upd H M (.lst [.ref Lp, .ref Lt])) M ∧
      ∀ (i : Nat) (x : V), [V.ref Lp, V.ref Lt][i]? = some x → ∃ t, [tellP z r0 r1 r2, tellL r0 r1 r2][i]? = some t ∧ RepE X 1 [M] (upd H M (.lst [.ref Lp, .ref Lt])) x t := by
  have s1 : Same H (upd H M (.lst [.ref Lp, .ref Lt])) := (Same.refl H).upd hM
  have gM : upd H M (.lst [.ref Lp, .ref Lt]) M = some (.lst [.ref Lp, .ref Lt]) := upd_same
  have nP : Lp ≠ M := ne_of_none o.gP hM
  have o1 := o.same s1
  generalize upd H M (.lst [.ref Lp, .ref Lt]) = H1 at s1 gM o1 ⊢
  have hu : X.A.units + 100 < cLine := by have := hr.un; omega
  obtain ⟨dx0, fx0, e0, _⟩ := o1.b0.ins
  have nLp : NonR H1 Lp := .lst o1.gP List.mem_cons_self (.ins e0)
  have nM : NonR H1 M := .lst gM List.mem_cons_self nLp
  have one : ∀ {x : Addr} {r : List Rule}, RelayAt R.C H1 x z r → Dl3 z r → RepE X 0 [Lp, M] H1 (.ref x) (reprR z r) := fun {x r} b d => by
    obtain ⟨dx, fx, e, _⟩ := b.ins
    exact repE_inst (hN [Lp, M]) R.bz hr R.zs R.zf e fun G sG => ⟨x, z, r, rfl, b.same sG, az, d.rp az, d.rok.few, rfl, Same.refl G⟩
  have plans : RepE X 1 [M] H1 (.ref Lp) (tellP z r0 r1 r2) := by
    refine repE_list hu o1.gP nLp (by rw [List.mem_singleton]; exact nP) rfl fun i x hx => ?_
    match i, hx with
    | 0, hx => cases hx; exact ⟨_, rfl, one o1.b0 o1.a0.d⟩
    | 1, hx => cases hx; exact ⟨_, rfl, one o1.b1 o1.a1.d⟩
    | 2, hx => cases hx; exact ⟨_, rfl, one o1.b2 o1.a2.d⟩
  have smL := lot_sm az o1.a0.d o1.a1.d o1.a2.d
  have lots : RepE X 0 [M] H1 (.ref Lt) (tellL r0 r1 r2) :=
    repE_data hu (.lst (SqL.of o1.gL) (.cons (dp_list (SqL.of o1.a0.g) o1.a0.r) (.cons (dp_list (SqL.of o1.a1.g) o1.a1.r) (.cons (dp_list (SqL.of o1.a2.g) o1.a2.r) .nil)))) smL.nd (smL.nice (by decide))
  refine ⟨s1, gM, nM, fun i x hx => ?_⟩
  match i, hx with
  | 0, hx => cases hx; exact ⟨_, rfl, plans⟩
  | 1, hx => cases hx; exact ⟨_, rfl, lots.mono (Nat.zero_le _)⟩
end
end K23
namespace K23
open PySem PySem.Spec PyProof.Rows L2 FL
open LamX
section
variable {P : Program} {w : World} {K : PySem.W.Frag} {mg : Str → Option Value} {base : Heap}
theorem ok_right {f : Addr} {fd : FuncData} {T : List (Addr × Str)} (F : Fun K "_law_right" "_law_right" sRight f fd) (R : RelF P w K mg base) (hN : ∀ L, FnN P w K mg base L 1 R.fz R.dz ["self"] (spReprR R.C)) (mG : mg "range" = none) (mN : mg "len" = none) (mR : mg "repr" = none)
    (cA : Ca P w K mg base "_law_abc" 2 ["_law_pot_here", "_law_most"] spAbc) (cD : Ca P w K mg base "_law_deals" 4 ["_law_pot_here", "_law_abc_here", "_law_lot", "_law_most"] spDeals2)
    (c2 : CaG P w K mg base "_law_two_right" 11 ["_law_pot_here", "_law_abc_here", "_law_first", "_law_second", "_law_plans"] (spTwo2 R.C T)) (c3 : CaG P w K mg base "_law_three_right" 11 ["_law_abc_here", "_law_plans"] (spThree R.C T))
    (cI : CaG P w K mg base "_law_identity_right" 10 ["_law_pot_here", "_law_abc_here", "_law_deals_here", "_law_plan"] (spIden R.C)) (cP : CaG P w K mg base "_law_powers_right" 12 ["_law_pot_here", "_law_abc_here", "_law_deals_here", "_law_plan"] (spPows R.C T)) :
    FnG P w K mg base CX0 13 f fd ["_law_pot_here"] (spRight T) := by
  refine okG F scRight (fun vs H Q E h => ?_) (fun cdv A outer s H vs Q E hr hg h => ?_)
  · obtain ⟨_, rfl, _⟩ := h
    rfl
  · obtain ⟨p, rfl, hp, hT, k⟩ := h
    have nd := scRight.nd
    have sz : sizeLine = 16777216 := rfl
    have h11 := hr.mono (show 11 ≤ 12 by decide)
    have h10 := hr.mono (show 10 ≤ 12 by decide)
    have h6 := hr.mono (show 6 ≤ 12 by decide)
    have h5 := hr.mono (show 5 ≤ 12 by decide)
    have h4 := hr.mono (show 4 ≤ 12 by decide)
    have h2 := hr.mono (show 2 ≤ 12 by decide)
    have hu : (A.deeper (envOfC "_law_right" (defScope sRight) s.heap.objs.size f cdv)).units + 100 < cLine := by have := hr.un; omega
    refine ⟨_, pss_cons (ps_set (i := 1) nd rfl (.inr rfl) (pe_ca cA h2 (by rfl) (pa_cons (pv 0) (pa_cons pe_int pa_nil))))
      (pss_cons (ps_for PassesOwn.never rfl (pi_range1 (by rfl) mG (pa_cons pe_int pa_nil)) (pg_name (i := 2) nd rfl (.inl rfl))
        (C8.pss_cut (ps_setLc (i := 3) (own := [("_law_more", 6)]) (g := gName 6) (tt := tYes) rfl nd rfl rfl (sw_true rfl rfl rfl (by decide +kernel)) (pi_range1 (by rfl) mG (pa_cons pe_int pa_nil))
          (blkOk_by (N := nRight) (sc := defScope sRight) (by decide +kernel)) (fun _ _ _ _ _ => pg_name (i := 6) nd rfl (Or.inl rfl)) (fun _ _ _ _ _ => pts_nil)
          (fun _ _ _ _ _ => pe_ca cD h4 (by rfl) (pa_cons (pv 0) (pa_cons (pv 1) (pa_cons pe_int (pa_cons (pe_ifExp (pt_cmpR op_lt (pe_callB (callLenK (K := K) rfl) (by rfl) mN PySem.boot_len (pa_cons (pv 1) pa_nil)) pe_int (nomark _)) pe_int pe_int) pa_nil))))))
        (C8.pss_cut (ps_setLc (i := 4) (own := [("_law_deals_here", 7)]) (g := gName 7) (tt := tYes) rfl nd rfl rfl (sw_true rfl rfl rfl (by decide +kernel)) (pi_list (pv 3))
          (blkOk_by (N := nRight) (sc := defScope sRight) (by decide +kernel)) (fun _ _ _ _ _ => pg_name (i := 7) nd rfl (Or.inl rfl)) (fun _ _ _ _ _ => pts_nil)
          (fun _ _ _ _ _ => pe_make R.mkc R.oi h6 (by rfl) R.T.mgC R.bi .nil pass0 (pa_cons (pv 1) (pa_cons (pv 7) pa_nil))))
        (C8.pss_cut (ps_set (i := 5) nd rfl (.inl rfl) (pe_callB (call_reprE hg hu) (by rfl) mR (by decide +kernel) (pa_cons (pe_lst (pa_cons (pv 4) (pa_cons (pv 3) pa_nil))) pa_nil)))
        (C8.pss_cut (ps_if (pt_not (pt_val (pe_cg c2 h11 hg (by rfl) (pa_cons (pv 0) (pa_cons (pv 1) (pa_cons (pe_ix ix_list (pv 3) pe_int (fun _ _ => rfl)) (pa_cons (pe_ix ix_list (pv 3) pe_int (fun _ _ => rfl)) (pa_cons (pe_slice sl_list (pv 4) po_none (po_some pe_int)) pa_nil)))))))) (pss_one (ps_ret pe_bl)) pss_nil)
        (C8.pss_cut (ps_if (pt_not (pt_val (pe_cg c2 h11 hg (by rfl) (pa_cons (pv 0) (pa_cons (pv 1) (pa_cons (pe_ix ix_list (pv 3) pe_int (fun _ _ => rfl)) (pa_cons (pe_ix ix_list (pv 3) pe_int (fun _ _ => rfl)) (pa_cons (pe_lst (pa_cons (pe_ix ix_list (pv 4) pe_int (fun _ _ => rfl)) (pa_cons (pe_ix ix_list (pv 4) pe_int (fun _ _ => rfl)) pa_nil))) pa_nil)))))))) (pss_one (ps_ret pe_bl)) pss_nil)
        (C8.pss_cut (ps_if (PW.pt (pw_or (pt_not (pt_val (pe_cg c3 h11 hg (by rfl) (pa_cons (pv 1) (pa_cons (pv 4) pa_nil))))) (pw_or1 (pt_not (pt_val (pe_cg cI h10 hg (by rfl) (pa_cons (pv 0) (pa_cons (pv 1) (pa_cons (pe_ix ix_list (pv 3) pe_int (fun _ _ => rfl)) (pa_cons (pe_ix ix_list (pv 4) pe_int (fun _ _ => rfl)) pa_nil)))))))))) (pss_one (ps_ret pe_bl)) pss_nil)
        (pss_one (ps_if (PW.pt (pw_or (pt_not (pt_val (pe_cg cP hr hg (by rfl) (pa_cons (pv 0) (pa_cons (pv 1) (pa_cons (pe_ix ix_list (pv 3) pe_int (fun _ _ => rfl)) (pa_cons (pe_ix ix_list (pv 4) pe_int (fun _ _ => rfl)) pa_nil))))))) (pw_or1 (pt_cmpR op_ne (pe_callB (call_reprE hg hu) (by rfl) mR (by decide +kernel) (pa_cons (pe_lst (pa_cons (pv 4) (pa_cons (pv 3) pa_nil))) pa_nil)) (pv 5) (nomark _))))) (pss_one (ps_ret pe_bl)) pss_nil)))))))))
      (pss_one (ps_ret pe_bl))), ?_⟩
    refine ⟨_, rfl, p, rfl, hp, fun z H1 az hp1 bb => ?_⟩
    have lo := az.lo
    have hi := az.hi
    have zl : z.length ≤ sizeLine := by rw [sz]; omega
    refine ⟨2, rfl, by decide, by decide, ?_⟩
    refine for_range (lo := 0) (n := 2) (fun i σ Hi => ∃ o2 o3 o4 o5 : Option V, σ = [some (.ref p), some (.str z), o2, o3, o4, o5, none, none] ∧ PotAt Hi p ∧ Tabs T Hi ∧ ByX p H Hi) ?_ ?_ ?_
    · exact ⟨none, none, none, none, rfl, hp1, tabs_butX hT hp bb, .but bb⟩
    · rintro i σ Hi hi2 ⟨o2, o3, o4, o5, rfl, pi, ti, yi⟩
      refine ⟨fun σ' H' => ∃ (Lt D0 D1 D2 : Addr) (ys0 ys1 ys2 : List V) (r0 r1 r2 : List Rule), σ' = [some (.ref p), some (.str z), some (.int (0 + i)), some (.ref Lt), o4, o5, none, none] ∧ PotAt H' p ∧ Tabs T H' ∧ ByX p H H' ∧ H' Lt = some (.lst [.ref D0, .ref D1, .ref D2]) ∧ DealA z D0 ys0 r0 H' ∧ DealA z D1 ys1 r1 H' ∧ DealA z D2 ys2 r2 H', ?_, ?_⟩
      · refine ⟨3, rfl, by decide, by decide, fun C hC => ?_⟩
        have npC : p ≠ C := pi.ne hC
        refine lc_range (lo := 0) (n := 3) (fun j Hj => PotAt Hj p ∧ But p Hi Hj ∧ ∃ (vs : List V) (rss : List (List Rule)), Hj C = some (.lst vs) ∧ vs.length = j ∧ Paired (LotAt Hj C) vs rss ∧ ∀ rs ∈ rss, Dl3 z rs) ?_ ?_ ?_
        · exact ⟨pi.upd npC, (But.refl p Hi).upd hC, [], [], upd_same, rfl, .nil, fun _ h => nomatch h⟩
        · rintro j Hj hj ⟨pj, bj, vs, rss, gC, lv, pv', dv⟩
          refine ⟨rfl, _, rfl, _, rfl, _, rfl, .str z, z.length, rfl, ⟨zl, rfl⟩, _, _, rfl, rfl, _, rfl, ?_⟩
          refine ite2 (fun h => ⟨p, z, 3, 2, rfl, pj, by omega, by omega, by decide, by decide, by decide, by decide, fun D xs rs H2 nD gD rD lD oD hp2 b2 => ?_⟩) (fun h => ⟨p, z, 3, 1, rfl, pj, by omega, by omega, by decide, by decide, by decide, by decide, fun D xs rs H2 nD gD rD lD oD hp2 b2 => ?_⟩)
          all_goals
            have dl : Dl3 z rs := by
              first
              | exact dl_wide (by have := of_decide_eq_true h; omega) (by omega) oD
              | exact dl_slim (fun q => h (decide_eq_true (show ((z.length : Nat) : Int) < 4 by omega))) (by omega) oD
            have gC2 := b2 _ _ gC (Ne.symm npC)
            have nDC : C ≠ D := ne_of_none gC nD
            refine ⟨vs, gC2, (by rw [sz]; omega), hp2.upd npC, (bj.trans b2).upd hC, vs ++ [.ref D], rss ++ [rs], upd_same, by rw [List.length_append, lv]; rfl, paired_snoc (paired_map pv' fun v r q => ?_) ⟨D, xs, rfl, Ne.symm nDC, by rw [upd_ne (Ne.symm nDC)]; exact gD, rules_updM rD gC2⟩, fun r hr => ?_⟩
            · obtain ⟨D', xs', e, ne, g, r'⟩ := q
              exact ⟨D', xs', e, ne, by rw [upd_ne ne]; exact b2 _ _ g (fun q => pot_list pj (by rw [← q]; exact g) r'), rules_updM (But.rules b2 pj r') gC2⟩
            · rcases List.mem_append.mp hr with h | h
              · exact dv r h
              · rw [List.mem_singleton.mp h]
                exact dl
        · rintro Hd ⟨pd, bd, vs, rss, gC, lv, pv', dv⟩
          obtain ⟨_, _, _, r0, r1, r2, rfl, rfl, ⟨D0, ys0, rfl, _, g0, q0⟩, ⟨D1, ys1, rfl, _, g1, q1⟩, ⟨D2, ys2, rfl, _, g2, q2⟩⟩ := paired3 pv' lv
          exact ⟨C, D0, D1, D2, ys0, ys1, ys2, r0, r1, r2, rfl, pd, tabs_butX ti pi bd, yi.trans (.but bd), gC, ⟨g0, q0, dv _ (by simp)⟩, ⟨g1, q1, dv _ (by simp)⟩, ⟨g2, q2, dv _ (by simp)⟩⟩
      clear pi ti yi
      rintro σ' Ha ⟨Lt, D0, D1, D2, ys0, ys1, ys2, r0, r1, r2, rfl, pa, ta, ya, gL, d0, d1, d2⟩
      refine ⟨fun σ' H' => ∃ (Lp x0 x1 x2 : Addr), σ' = [some (.ref p), some (.str z), some (.int (0 + i)), some (.ref Lt), some (.ref Lp), o5, none, none] ∧ Rt R.C p Lt Lp D0 D1 D2 x0 x1 x2 T z ys0 ys1 ys2 r0 r1 r2 H H', ?_, ?_⟩
      · refine ⟨_, rfl, Lt, rfl, ⟨_, SqL.of gL⟩, fun C hC => ?_⟩
        have src : Paired (fun (v : V) (rs : List Rule) => ∃ (D : Addr) (xs : List V), v = .ref D ∧ DealA z D xs rs Ha) [.ref D0, .ref D1, .ref D2] [r0, r1, r2] := .cons ⟨D0, ys0, rfl, d0⟩ (.cons ⟨D1, ys1, rfl, d1⟩ (.cons ⟨D2, ys2, rfl, d2⟩ .nil))
        refine lc_it (walk_list (xs := [.ref D0, .ref D1, .ref D2])) (fun j Hj => Same Ha Hj ∧ ∃ us : List V, Hj C = some (.lst us) ∧ us.length = j ∧ Paired (PlanAt R.C Hj z C) us ([r0, r1, r2].take j)) ?_ ?_ ?_ ?_
        · exact ⟨(Same.refl Ha).upd hC, [], upd_same, rfl, .nil⟩
        · rintro j Hj _ ⟨sj, _⟩
          exact SqL.of (sj _ _ gL)
        · rintro j xv Hj0 Hj hj ⟨sj, us, gC, lu, pu⟩ ⟨rfl, hxj⟩
          obtain ⟨rs, hrs, D, xs, rfl, dd⟩ := L2.paired_get src hxj
          have j3 : j < 3 := (List.getElem?_eq_some_iff.mp hxj).1
          refine ⟨rfl, _, rfl, _, rfl, ?_⟩
          refine make_ra (rs := rs) az ⟨D, xs, false, rfl, sj _ _ dd.g, Same.rules sj dd.r⟩ dd.d.rok.ok dd.d.rok.few fun x H2 ra nx nra rel s2 => ?_
          have gC2 := s2 _ _ gC
          refine ⟨us, gC2, (by rw [sz]; omega), (sj.trans s2).upd hC, us ++ [.ref x], upd_same, by rw [List.length_append, lu]; rfl, ?_⟩
          rw [take_snoc hrs]
          refine paired_snoc (paired_map pu fun v r q => ?_) ⟨x, ra, rfl, rel.updL gC2 (Ne.symm (ne_of_none gC nra)), Ne.symm (ne_of_none gC nra)⟩
          obtain ⟨x', ra', e, rel', ne⟩ := q
          obtain ⟨dx', ia', zs, e1, e2, e3, kvs, e4, e5, e6⟩ := rel'
          have rel2 : RelayR R.C H2 x' z r ra' := ⟨dx', ia', zs, s2 _ _ e1, s2 _ _ e2, RulesAt.imp e3 fun t a g => s2 t _ g, kvs, s2 _ _ e4, e5, e6.imp fun t a g => s2 t _ g⟩
          exact ⟨x', ra', e, rel2.updL gC2 ne, ne⟩
        · rintro Hd ⟨sd, us, gC, lu, pu⟩
          obtain ⟨_, _, _, w0, w1, w2, rfl, ew, ⟨x0, a0, rfl, b0, _⟩, ⟨x1, a1, rfl, b1, _⟩, ⟨x2, a2, rfl, b2, _⟩⟩ := paired3 pu lu
          cases ew
          have bx : ByX p Ha Hd := .same sd
          exact ⟨C, x0, x1, x2, rfl, FL.Same.pot sd pa, ta.ext sd, ya.trans bx, sd _ _ gL, gC, d0.byX pa bx, d1.byX pa bx, d2.byX pa bx, b0.at_, b1.at_, b2.at_⟩
      clear pa ta ya gL d0 d1 d2
      rintro σ' Hb ⟨Lp, x0, x1, x2, rfl, ob⟩
      have e0 := ob.a0.d
      have e1 := ob.a1.d
      have e2 := ob.a2.d
      refine ⟨fun σ' H' => σ' = [some (.ref p), some (.str z), some (.int (0 + i)), some (.ref Lt), some (.ref Lp), some (.str (tellA z r0 r1 r2)), none, none] ∧ Rt R.C p Lt Lp D0 D1 D2 x0 x1 x2 T z ys0 ys1 ys2 r0 r1 r2 H H', ?_, ?_⟩
      · refine ⟨_, rfl, _, rfl, (by show 2 ≤ sizeLine; decide), fun M hM => ?_⟩
        obtain ⟨sM, gM, nM, each⟩ := tells (X := (cxOf CX0 P w K mg base nRight "_law_right" (defScope sRight) f cdv A outer s H E).nox) R hN h5 az ob hM
        exact ⟨M, _, [tellP z r0 r1 r2, tellL r0 r1 r2], 1, rfl, gM, nM, rfl, by decide, each, tellA_len az e0 e1 e2, fun H' s' => ⟨rfl, ob.same (sM.trans s')⟩⟩
      clear ob
      rintro σ' Hc ⟨rfl, oc⟩
      refine ⟨fun σ' H' => σ' = [some (.ref p), some (.str z), some (.int (0 + i)), some (.ref Lt), some (.ref Lp), some (.str (tellA z r0 r1 r2)), none, none] ∧ Rt R.C p Lt Lp D0 D1 D2 x0 x1 x2 T z ys0 ys1 ys2 r0 r1 r2 H H', ?_, ?_⟩
      · refine ⟨_, rfl, _, rfl, _, rfl, Lt, _, _, .ref D0, rfl, rfl, SqL.of oc.gL, rfl, _, rfl, Lt, _, _, .ref D1, rfl, rfl, SqL.of oc.gL, rfl, _, rfl, _, rfl, Lp, _, rfl, SqL.of oc.gP, fun q hq => ?_⟩
        have s1 : Same Hc (upd Hc q (.lst (cutV [.ref x0, .ref x1, .ref x2] none (some 2)))) := (Same.refl Hc).upd hq
        have gq : upd Hc q (.lst (cutV [.ref x0, .ref x1, .ref x2] none (some 2))) q = some (.lst [.ref x0, .ref x1]) := by
          rw [upd_same]
          rfl
        generalize upd Hc q (.lst (cutV [.ref x0, .ref x1, .ref x2] none (some 2))) = Hd at s1 gq ⊢
        have od := oc.same s1
        refine ⟨p, D0, D1, q, x0, x1, z, r0, r1, ys0, ys1, rfl, az, e0, e1, ⟨od.pot, od.tab, ByX.refl p Hd, od.a0.g, od.a0.r, od.a1.g, od.a1.r, gq, od.b0, od.b1⟩, fun H' p' t' y' => ?_⟩
        refine ⟨_, rfl, ?_⟩
        refine iteF ?_
        exact ⟨rfl, od.byX p' t' y'⟩
      clear oc
      rintro σ' Hc ⟨rfl, oc⟩
      refine ⟨fun σ' H' => σ' = [some (.ref p), some (.str z), some (.int (0 + i)), some (.ref Lt), some (.ref Lp), some (.str (tellA z r0 r1 r2)), none, none] ∧ Rt R.C p Lt Lp D0 D1 D2 x0 x1 x2 T z ys0 ys1 ys2 r0 r1 r2 H H', ?_, ?_⟩
      · refine ⟨_, rfl, _, rfl, _, rfl, Lt, _, _, .ref D2, rfl, rfl, SqL.of oc.gL, rfl, _, rfl, Lt, _, _, .ref D0, rfl, rfl, SqL.of oc.gL, rfl, _, rfl, Lp, _, _, .ref x2, rfl, rfl, SqL.of oc.gP, rfl, _, rfl, Lp, _, _, .ref x0, rfl, rfl, SqL.of oc.gP, rfl, (by show 2 ≤ sizeLine; decide), fun q hq => ?_⟩
        have s1 : Same Hc (upd Hc q (.lst [.ref x2, .ref x0])) := (Same.refl Hc).upd hq
        have gq : upd Hc q (.lst [.ref x2, .ref x0]) q = some (.lst [.ref x2, .ref x0]) := upd_same
        generalize upd Hc q (.lst [.ref x2, .ref x0]) = Hd at s1 gq ⊢
        have od := oc.same s1
        refine ⟨p, D2, D0, q, x2, x0, z, r2, r0, ys2, ys0, rfl, az, e2, e0, ⟨od.pot, od.tab, ByX.refl p Hd, od.a2.g, od.a2.r, od.a0.g, od.a0.r, gq, od.b2, od.b0⟩, fun H' p' t' y' => ?_⟩
        refine ⟨_, rfl, ?_⟩
        refine iteF ?_
        exact ⟨rfl, od.byX p' t' y'⟩
      clear oc
      rintro σ' Hc ⟨rfl, oc⟩
      refine ⟨fun σ' H' => σ' = [some (.ref p), some (.str z), some (.int (0 + i)), some (.ref Lt), some (.ref Lp), some (.str (tellA z r0 r1 r2)), none, none] ∧ Rt R.C p Lt Lp D0 D1 D2 x0 x1 x2 T z ys0 ys1 ys2 r0 r1 r2 H H', ?_, ?_⟩
      · have sm3 : Sml z [r0, r1, r2] := Dl3.sml fun rs m => by
          simp only [List.mem_cons, List.mem_nil_iff, or_false] at m
          rcases m with rfl | rfl | rfl
          · exact e0
          · exact e1
          · exact e2
        obtain ⟨cs, tb⟩ := sm3.tab az
        refine ⟨_, rfl, _, rfl, z, Lp, x0, x1, x2, r0, r1, r2, cs, rfl, oc.tab, az, oc.gP, oc.b0, oc.b1, oc.b2, e0, e1, e2, tb, fun Hd ed td => ?_⟩
        have od := oc.byX (pot_extN oc.pot ed) td (.ext ed)
        refine ⟨_, rfl, ?_⟩
        refine iteF ?_
        refine ⟨_, rfl, _, rfl, _, rfl, Lt, _, _, .ref D1, rfl, rfl, SqL.of od.gL, rfl, _, rfl, Lp, _, _, .ref x1, rfl, rfl, SqL.of od.gP, rfl, p, D1, x1, z, r1, ys1, rfl, az, e1, ⟨od.pot, But.refl p Hd, od.a1.g, od.a1.r, od.b1⟩, fun He pe be => ?_⟩
        refine ⟨_, rfl, ?_⟩
        refine iteF ?_
        exact ⟨rfl, od.but pe be⟩
      clear oc
      rintro σ' Hc ⟨rfl, oc⟩
      refine ⟨_, rfl, _, rfl, _, rfl, Lt, _, _, .ref D2, rfl, rfl, SqL.of oc.gL, rfl, _, rfl, Lp, _, _, .ref x2, rfl, rfl, SqL.of oc.gP, rfl, p, D2, x2, z, r2, ys2, rfl, az, e2, ⟨oc.pot, oc.tab, ByX.refl p Hc, oc.a2.g, oc.a2.r, oc.b2⟩, fun Hd pd td yd => ?_⟩
      have od := oc.byX pd td yd
      refine ⟨_, rfl, ?_⟩
      refine iteF ?_
      refine ⟨_, rfl, _, rfl, (by show 2 ≤ sizeLine; decide), fun M hM => ?_⟩
      obtain ⟨sM, gM, nM, each⟩ := tells (X := (cxOf CX0 P w K mg base nRight "_law_right" (defScope sRight) f cdv A outer s H E).nox) R hN h5 az od hM
      refine ⟨M, _, [tellP z r0 r1 r2, tellL r0 r1 r2], 1, rfl, gM, nM, rfl, by decide, each, tellA_len az e0 e1 e2, fun He se => ?_⟩
      refine ⟨_, rfl, rfl, _, rfl, ?_⟩
      refine iteNS rfl ?_
      have oe := od.same (sM.trans se)
      exact ⟨_, _, _, _, rfl, oe.pot, oe.tab, oe.by_⟩
    · rintro σ Hi ⟨o2, o3, o4, o5, rfl, pi, ti, yi⟩
      exact k _ pi ti yi
theorem ok_law {f : Addr} {fd : FuncData} {T : List (Addr × Str)} (F : Fun K "law" "law" sLaw f fd) (mA : mg "all" = none) (mG : mg "range" = none) (mX : mg "max" = none) (mI : mg "min" = none) (mN : mg "len" = none)
    (cP : Ca P w K mg base "_law_pot" 1 ["_law_script", "_law_k"] (spPot K)) (cR : CaG P w K mg base "_law_right" 13 ["_law_pot_here"] (spRight T)) :
    FnG P w K mg base CX0 14 f fd ["_law_script"] (spLawT K T) := by
  refine okG F scLaw (fun vs H Q E h => ?_) (fun cdv A outer s H vs Q E hr hg h => ?_)
  · obtain ⟨_, _, rfl, _⟩ := h
    rfl
  · obtain ⟨a, ns, rfl, hs, ln, hT, k⟩ := h
    have nd := scLaw.nd
    have hr1 := hr.mono (show 1 ≤ 13 by decide)
    refine ⟨_, pss_one (ps_ret (pe_callB (cr_all rfl) (by rfl) mA (by decide +kernel) (pa_cons (pe_lc (own := [("_law_k", 1)]) (g := gName 1) (tt := tYes)
      (te := tCall (spRight T) [] E0 (tCons (tCall (spPot K) [] E0 (tCons (tVar 0) (tCons (tVar 1) tNil))) tNil)) rfl nd
      (pi_range1 (by rfl) mG (pa_cons (pe_callB (call_max2 rfl) (by rfl) mX (by decide +kernel) (pa_cons pe_int (pa_cons (pe_callB (call_min2 rfl) (by rfl) mI (by decide +kernel)
        (pa_cons (pe_callB callLen (by rfl) mN PySem.boot_len (pa_cons (pv 0) pa_nil)) (pa_cons pe_int pa_nil))) pa_nil))) pa_nil))
      (blkOk_by (N := ["_law_script", "_law_k"]) (sc := defScope sLaw) (by decide +kernel)) (fun _ _ _ _ _ => pg_name (i := 1) nd rfl (Or.inl rfl)) (fun _ _ _ _ _ => pts_nil)
      (fun _ _ _ _ _ => pe_cg cR hr hg (by rfl) (pa_cons (pe_ca cP hr1 (by rfl) (pa_cons (pv 0) (pa_cons (pv 1) pa_nil))) pa_nil))) pa_nil))), ?_⟩
    have sz : sizeLine = 16777216 := rfl
    refine ⟨_, rfl, _, ns.length, rfl, .inl ⟨_, hs, (List.length_map _).symm⟩, _, _, rfl, _, _, rfl, ?_⟩
    refine ⟨_, rfl, (by split <;> split <;> omega), (by split <;> split <;> omega), fun D hD => ?_⟩
    refine lc_range (lo := 0) (n := _) (fun i Hi => Tabs T Hi ∧ SqL K Hi a (ns.map V.int) ∧ Hi D = some (.lst ((List.replicate i true).map V.bl))) ?_ ?_ ?_
    · have s0 : Same H (upd H D (.lst [])) := (Same.refl H).upd hD
      exact ⟨hT.ext s0, s0.sqL hs, upd_same⟩
    · rintro i Hi hi ⟨ti, hsi, hDi⟩
      have hi4 : i < 4 := by
        revert hi
        split <;> split <;> omega
      refine ⟨rfl, _, rfl, _, rfl, a, ns, _, rfl, hsi, by omega, by omega, ln, fun q H2 hq hp2 s2 => ?_⟩
      have t2 := ti.ext s2
      have hs2 := s2.sqL hsi
      refine ⟨q, rfl, hp2, t2, fun H3 hp3 t3 b3 => ?_⟩
      have nDq : D ≠ q := ne_of_none hDi hq
      have hD3 := b3 D _ (s2 _ _ hDi) nDq not_tbl_l
      refine ⟨_, hD3, (by rw [List.length_map, List.length_replicate, sz]; omega), tabs_updL t3 hD3, ?_, ?_⟩
      · have nqa : ∀ o, Hi a = some o → a ≠ q := fun o e => ne_of_none e hq
        have nDa : ∀ {o}, H a = some o → a ≠ D := fun e => ne_of_none e hD
        rcases hs with (e | ⟨o, e⟩) | e
        · rcases hsi with (e0 | ⟨o0, e0⟩) | e0
          · refine .inl (.inl ?_)
            rw [upd_ne (nDa e)]
            exact b3 _ _ (s2 _ _ e0) (nqa _ e0) not_tbl_l
          · refine .inl (.inr ⟨o0, ?_⟩)
            rw [upd_ne (nDa e)]
            exact b3 _ _ (s2 _ _ e0) (nqa _ e0) (fun _ z => by cases z)
          · exact .inr e0
        · rcases hsi with (e0 | ⟨o0, e0⟩) | e0
          · refine .inl (.inl ?_)
            rw [upd_ne (nDa e)]
            exact b3 _ _ (s2 _ _ e0) (nqa _ e0) not_tbl_l
          · refine .inl (.inr ⟨o0, ?_⟩)
            rw [upd_ne (nDa e)]
            exact b3 _ _ (s2 _ _ e0) (nqa _ e0) (fun _ z => by cases z)
          · exact .inr e0
        · exact .inr e
      · rw [upd_same, List.replicate_succ', List.map_append]
        rfl
    · rintro Hi ⟨ti, hsi, hDi⟩
      refine ⟨D, _, rfl, SqL.of hDi, ?_⟩
      rw [all_true]
      exact k Hi
end
end K23
namespace K23
open PySem PySem.Spec PyProof.Rows L2 FL
section
variable {P : Program} {w : World} {K : PySem.W.Frag} {mg : Str → Option Value} {h : Heap}
theorem getr_rec (c : recB K = true) : ∃ rest, PySem.W.recIn K (He.ma K (He.ga K "Relay") "signs") "property" = some (.ref (getr K) :: rest) := by
  unfold recB at c
  show ∃ rest, PySem.W.recIn K (me "signs" K) "property" = _
  split at c
  · rename_i g rest e
    refine ⟨rest, ?_⟩
    unfold getr
    rw [e]
  · cases c
theorem glo_mg (KX : K.In h) (G : h.Ns mainGlobals mg) {x : Str} (c : exs K = true) (hx : x ∈ glos ∨ x ∈ glos2) : mg x = some (.ref (gl x K)) := by
  unfold exs at c
  simp only [Bool.and_eq_true] at c
  obtain ⟨c1, c2, _⟩ := c
  rcases hx with hx | hx
  · exact He.glo_ok KX G (List.all_eq_true.mp c1 x hx)
  · exact He.glo_ok KX G (List.all_eq_true.mp c2 x hx)
theorem free_mg (KX : K.In h) (G : h.Ns mainGlobals mg) {x : Str} (c : exs K = true) (hx : x ∈ free1) : mg x = none := by
  unfold exs at c
  simp only [Bool.and_eq_true] at c
  obtain ⟨_, _, c3, _⟩ := c
  exact He.free_ok KX G (List.all_eq_true.mp c3 x hx)
structure Facts (K : PySem.W.Frag) : Prop where
  i1 : (He.Fa.int "MOST_RULE_SIGNS" 40).ok K = true
  i2 : (He.Fa.int "MOST_RULES" 400).ok K = true
  i4 : (He.Fa.int "MOST_CELLS" 400).ok K = true
  i6 : (He.Fa.int "MOST_TIMES" 60).ok K = true
  iw : He.tupB K "RULE_WORDS" [.str (Str.ofString "front"), .str (Str.ofString "whole")] = true
  gw : (He.Fa.glo "RULE_WORDS").ok K = true
  sf : PySem.W.selfFirst K (He.ga K "Relay") = true
  i3 : (He.Fa.str "SIGN_CHARACTERS" signChars).ok K = true
  cl : Cls K (He.ga K "Relay")
  n1 : NoAttr K (He.ga K "Relay") "_signs"
  n2 : NoAttr K (He.ga K "Relay") "_rules"
  n3 : NoAttr K (He.ga K "Relay") "_index"
  mk_ : Mk K (He.ga K "Relay") (He.ma K (He.ga K "Relay") "__init__")
  m0 : Meth K (He.ga K "Relay") "rules" (He.ma K (He.ga K "Relay") "rules")
  m1 : Meth K (He.ga K "Relay") "power" (He.ma K (He.ga K "Relay") "power")
  m2 : Meth K (He.ga K "Relay") "is_alike" (He.ma K (He.ga K "Relay") "is_alike")
  m3 : Meth K (He.ga K "Relay") "__mul__" (He.ma K (He.ga K "Relay") "__mul__")
  m4 : Meth K (He.ga K "Relay") "__eq__" (He.ma K (He.ga K "Relay") "__eq__")
  m5 : Meth K (He.ga K "Relay") "__repr__" (He.ma K (He.ga K "Relay") "__repr__")
  eg : egB2 K tlA "ArithmeticError.__new__" "what" "limit" (He.ga K "TooMany") (er "TooMany" K) = true
  tt : PySem.W.exmOne K (.ref (He.ga K "TooMany")) (.ref (He.ga K "TooMany")) = some true
  kl : PySem.W.kitOne K (.ref (He.ga K "TooMany")) (.ref (He.ga K "LimitError")) = some true
  ka : PySem.W.kitOne K (.ref (He.ga K "TooMany")) (.type "ArithmeticError") = some true
  q1 : ¬ (He.cT K lam2).2 = (He.cT K lam3).2
  q2 : ¬ (He.cT K lam2).2 = (He.cT K lamP).2
  q3 : ¬ (He.cT K lam3).2 = (He.cT K lamP).2
  pr : PropOf K (He.ga K "Relay") "signs" (He.ma K (He.ga K "Relay") "signs") (getr K)
  cc : StX.CallO K (He.ga K "Relay") (He.ma K (He.ga K "Relay") "__call__")
  it : IsT K (He.ga K "Relay")
  kin : ∀ n ∈ FL.kinds, PySem.W.mroIn K (He.ga K "Relay") (.type n) = some false
  ne : PySem.W.findIn K (.ref (He.ga K "Relay")) "__ne__" = some (some (.builtin "object.__ne__"))
theorem facts_of (c : exs K = true) : Facts K := by
  unfold exs relB at c
  simp only [Bool.and_eq_true] at c
  obtain ⟨_, _, _, i1, i2, i4, i6, i3, gw, iw, c1, c2, c3, c4, c5, c10, c11, c12, c13, c14, c15, sf, eg, tt, kl, ka, q1, q2, q3, r0, r1, r2, r3, r4, r5, r6, r7, r8, r9, r10, r11⟩ := c
  have kk := List.all_eq_true.mp r10
  have cl := He.cls_ok c1
  exact ⟨i1, i2, i4, i6, iw, gw, sf, i3, cl, He.noat_ok c2, He.noat_ok c3, He.noat_ok c4, He.mkr_ok c5, He.meth_ok c10, He.meth_ok c11, He.meth_ok c12, He.meth_ok c13, He.meth_ok c14, He.meth_ok c15, eg, of_decide_eq_true tt, of_decide_eq_true kl, of_decide_eq_true ka, of_decide_eq_true q1, of_decide_eq_true q2, of_decide_eq_true q3,
    ⟨He.eqO_ok r3, He.eqO_ok r1, of_decide_eq_true r2, getr_rec r0⟩, ⟨He.eqO_ok r4, r5, r6⟩,
    ⟨cl, He.eqO_ok r7, of_decide_eq_true r8, of_decide_eq_true r9, fun n hn => of_decide_eq_true (Bool.and_eq_true_iff.mp (kk n hn)).1⟩,
    fun n hn => of_decide_eq_true (Bool.and_eq_true_iff.mp (kk n hn)).2, He.eqO_ok r11⟩
end
end K23
namespace K23
open PySem PySem.Spec PyProof.Rows L2 FL LamX
section
variable {P : Program} {w : World} {K : PySem.W.Frag} {mg : Str → Option Value} {base : Heap}
theorem bind_one {K : PySem.W.Frag} {x qual p : Str} {st : Stmt} {f : Addr} {fd : FuncData} (F : Fun K x qual st f fd)
    (h : ∀ (kV doc pm : Value) (an : Option Addr) (cdv ct : Value) (u : Value), bindArgs (PySem.W.fnOf x qual (defArgs st) (defBody st) (defScope st) .none kV doc pm an cdv ct) ⟨[u], []⟩ = pure [(p, u)]) (s : Shared) (u : Value) : BindsTo s fd ⟨[u], []⟩ [(p, u)] := by
  obtain ⟨oc, od, kV, doc, pm, an, cdv, ct, osl, rfl, lk, hcd⟩ := F.ex
  exact .of_eq (h kV doc pm an cdv ct u)
theorem ca_of {x : Str} {qual : Str} {st : Stmt} {f : Addr} {fd : FuncData} {k : Nat} {ps : List Str} {sp : Sp} (F : Fun K x qual st f fd) (m : mg x = some (.ref f)) (o : FnOk P w K mg base CX0 k f fd ps sp) (b : Binds K fd ps []) : Ca P w K mg base x k ps sp := ⟨f, fd, o, b, F.kp, m⟩
theorem cg_of {x : Str} {qual : Str} {st : Stmt} {f : Addr} {fd : FuncData} {k : Nat} {ps : List Str} {sp : Sp} (F : Fun K x qual st f fd) (m : mg x = some (.ref f)) (o : FnG P w K mg base CX0 k f fd ps sp) (b : Binds K fd ps []) : CaG P w K mg base x k ps sp := ⟨f, fd, o, b, F.kp, m⟩
end
theorem cx_of {P : Program} {w : World} {K : PySem.W.Frag} {mg : Str → Option Value} {base : Heap} {x : Str} {qual : Str} {st : Stmt} {f : Addr} {fd : FuncData} {k : Nat} {ps : List Str} {sp : Sp} (F : Fun K x qual st f fd) (m : mg x = some (.ref f)) (o : FnOk P w K mg base (L2.CX P w) k f fd ps sp) (b : Binds K fd ps []) : CaX P w K mg base x k ps sp := ⟨f, fd, o, b, F.kp, m⟩
def tabsT (K : PySem.W.Frag) : List (Addr × Str) := [((He.cT K lam2).2, twoQ), ((He.cT K lam3).2, treQ), ((He.cT K lamP).2, powQ)]
theorem whole {P : Program} {w : World} {K : PySem.W.Frag} {mg : Str → Option Value} {h : Heap} (KX : K.In h) (G : h.Ns mainGlobals mg) (S : SaysL defs exs lams h K) :
    ∃ fd : FuncData, mg "law" = some (.ref (gl "law" K)) ∧ (∀ (s : Shared) (u : Value), BindsTo s fd ⟨[u], []⟩ [("_law_script", u)]) ∧ ∀ base : Heap, K.In base → base.Ns mainGlobals mg → (∀ p ∈ lams, TabB base mg (He.cT K p).1 (He.cT K p).2) →
      FnG P w K mg base CX0 14 (gl "law" K) fd ["_law_script"] (spLawT K (tabsT K)) := by
  have c := S.seen
  have cx := look_ex c
  have T := facts_of cx
  have g1 : ∀ x ∈ glos, mg x = some (.ref (gl x K)) := fun x hx => glo_mg KX G cx (.inl hx)
  have g2 : ∀ x ∈ glos2, mg x = some (.ref (gl x K)) := fun x hx => glo_mg KX G cx (.inr hx)
  have fr : ∀ x ∈ free1, mg x = none := fun x hx => free_mg KX G cx hx
  obtain ⟨tk1, mM1⟩ := He.int_ok KX G T.i1
  obtain ⟨tk2, mM2⟩ := He.int_ok KX G T.i2
  obtain ⟨tk4, mM4⟩ := He.int_ok KX G T.i4
  obtain ⟨tk6, mM6⟩ := He.int_ok KX G T.i6
  obtain ⟨tk3, mC⟩ := He.str_ok KX G T.i3
  have mW := He.glo_ok KX G T.gw
  obtain ⟨d0, F0⟩ := look_fn c 0 (d := glD "is_integer" 13) rfl
  obtain ⟨d1, F1⟩ := look_fn c 1 (d := glD "is_count" 14) rfl
  obtain ⟨d2, F2⟩ := look_fn c 2 (d := glD "check_count" 26) rfl
  obtain ⟨d3, F3⟩ := look_fn c 3 (d := glD "is_list" 15) rfl
  obtain ⟨d4, F4⟩ := look_fn c 4 (d := glD "is_signs" 16) rfl
  obtain ⟨d5, F5⟩ := look_fn c 5 (d := glD "is_line" 17) rfl
  obtain ⟨d6, F6⟩ := look_fn c 6 (d := glD "line_order" 18) rfl
  obtain ⟨d7, F7⟩ := look_fn c 7 (d := glD "in_order" 19) rfl
  obtain ⟨d8, F8⟩ := look_fn c 8 (d := glD "check_signs" 23) rfl
  obtain ⟨d9, F9⟩ := look_fn c 9 (d := glD "check_same_signs" 24) rfl
  obtain ⟨d10, F10⟩ := look_fn c 10 (d := glD "check_line" 25) rfl
  obtain ⟨d11, F11⟩ := look_fn c 11 (d := glD "is_word" 27) rfl
  obtain ⟨d12, F12⟩ := look_fn c 12 (d := glD "is_rule_line" 28) rfl
  obtain ⟨d13, F13⟩ := look_fn c 13 (d := glD "is_rule" 29) rfl
  obtain ⟨d14, F14⟩ := look_fn c 14 (d := glD "check_rules" 30) rfl
  obtain ⟨d15, F15⟩ := look_fn c 15 (d := glD "rule_index" 33) rfl
  obtain ⟨d16, F16⟩ := look_fn c 16 (d := glD "turned_once" 34) rfl
  obtain ⟨d17, F17⟩ := look_fn c 17 (d := glD "turned_through" 35) rfl
  obtain ⟨d18, F18⟩ := look_fn c 18 (d := glD "beginnings" 36) rfl
  obtain ⟨d19, F19⟩ := look_fn c 19 (d := glD "uneven_lines" 37) rfl
  obtain ⟨d20, F20⟩ := look_fn c 20 (d := glD "is_even_by_signs" 38) rfl
  obtain ⟨d21, F21⟩ := look_fn c 21 (d := glD "uneven_of" 39) rfl
  obtain ⟨d22, F22⟩ := look_fn c 22 (d := glD "check_cells" 40) rfl
  obtain ⟨d23, F23⟩ := look_fn c 23 (d := glD "cells_of" 41) rfl
  obtain ⟨d24, F24⟩ := look_fn c 24 (d := glD "table_of" 42) rfl
  obtain ⟨d25, F25⟩ := look_fn c 25 (d := glD "product_table" 44) rfl
  obtain ⟨d26, F26⟩ := look_fn c 26 (d := glD "uneven_ends" 45) rfl
  obtain ⟨d27, F27⟩ := look_fn c 27 (d := glD "changing_cells" 46) rfl
  obtain ⟨d28, F28⟩ := look_fn c 28 (d := meD "__init__" "Relay.__init__" 0) rfl
  obtain ⟨d29, F29⟩ := look_fn c 29 (d := ⟨getr, "signs", "Relay.signs", inClass (topS 50) 1⟩) rfl
  obtain ⟨d30, F30⟩ := look_fn c 30 (d := meD "rules" "Relay.rules" 2) rfl
  obtain ⟨d31, F31⟩ := look_fn c 31 (d := meD "__call__" "Relay.__call__" 3) rfl
  obtain ⟨d32, F32⟩ := look_fn c 32 (d := meD "__mul__" "Relay.__mul__" 5) rfl
  obtain ⟨d33, F33⟩ := look_fn c 33 (d := meD "power" "Relay.power" 6) rfl
  obtain ⟨d34, F34⟩ := look_fn c 34 (d := meD "is_alike" "Relay.is_alike" 7) rfl
  obtain ⟨d35, F35⟩ := look_fn c 35 (d := meD "__eq__" "Relay.__eq__" 12) rfl
  obtain ⟨d36, F36⟩ := look_fn c 36 (d := meD "__repr__" "Relay.__repr__" 13) rfl
  obtain ⟨d37, F37⟩ := look_fn c 37 (d := erD "TooMany" "TooMany.__init__" 10) rfl
  obtain ⟨d38, F38⟩ := look_fn c 38 (d := glD "_law_pot" 52) rfl
  obtain ⟨d39, F39⟩ := look_fn c 39 (d := glD "_law_draw" 53) rfl
  obtain ⟨d40, F40⟩ := look_fn c 40 (d := glD "_law_pick" 54) rfl
  obtain ⟨d41, F41⟩ := look_fn c 41 (d := glD "_law_mixed" 55) rfl
  obtain ⟨d42, F42⟩ := look_fn c 42 (d := glD "_law_abc" 56) rfl
  obtain ⟨d43, F43⟩ := look_fn c 43 (d := glD "_law_note" 57) rfl
  obtain ⟨d44, F44⟩ := look_fn c 44 (d := glD "_law_deals" 58) rfl
  obtain ⟨d45, F45⟩ := look_fn c 45 (d := glD "_law_turn" 59) rfl
  obtain ⟨d46, F46⟩ := look_fn c 46 (d := glD "_law_through" 60) rfl
  obtain ⟨d47, F47⟩ := look_fn c 47 (d := glD "_law_notes" 61) rfl
  obtain ⟨d48, F48⟩ := look_fn c 48 (d := glD "_law_is_short" 62) rfl
  obtain ⟨d49, F49⟩ := look_fn c 49 (d := glD "_law_cells" 63) rfl
  obtain ⟨d50, F50⟩ := look_fn c 50 (d := glD "_law_changed" 64) rfl
  obtain ⟨d51, F51⟩ := look_fn c 51 (d := glD "_law_heard" 65) rfl
  obtain ⟨d52, F52⟩ := look_fn c 52 (d := glD "_law_due" 66) rfl
  obtain ⟨d53, F53⟩ := look_fn c 53 (d := glD "_law_two_right" 67) rfl
  obtain ⟨d54, F54⟩ := look_fn c 54 (d := glD "_law_three_right" 68) rfl
  obtain ⟨d55, F55⟩ := look_fn c 55 (d := glD "_law_identity_right" 69) rfl
  obtain ⟨d56, F56⟩ := look_fn c 56 (d := glD "_law_powers_right" 70) rfl
  obtain ⟨d57, F57⟩ := look_fn c 57 (d := glD "_law_right" 71) rfl
  obtain ⟨d58, F58⟩ := look_fn c 58 (d := glD "law" 72) rfl
  have b0 : Binds K d0 ["value"] [] := F0.binds fun _ _ _ _ _ _ us hl => match us, hl with | [_], _ => rfl
  have b1 : Binds K d1 ["value"] [] := F1.binds fun _ _ _ _ _ _ us hl => match us, hl with | [_], _ => rfl
  have b2 : Binds K d2 ["value"] [] := F2.binds fun _ _ _ _ _ _ us hl => match us, hl with | [_], _ => rfl
  have b3 : Binds K d3 ["value"] [] := F3.binds fun _ _ _ _ _ _ us hl => match us, hl with | [_], _ => rfl
  have b4 : Binds K d4 ["value"] [] := F4.binds fun _ _ _ _ _ _ us hl => match us, hl with | [_], _ => rfl
  have b5 : Binds K d5 ["signs", "value"] [] := F5.binds fun _ _ _ _ _ _ us hl => match us, hl with | [_, _], _ => rfl
  have b6 : Binds K d6 ["line"] [] := F6.binds fun _ _ _ _ _ _ us hl => match us, hl with | [_], _ => rfl
  have b7 : Binds K d7 ["lines"] [] := F7.binds fun _ _ _ _ _ _ us hl => match us, hl with | [_], _ => rfl
  have b8 : Binds K d8 ["signs"] [] := F8.binds fun _ _ _ _ _ _ us hl => match us, hl with | [_], _ => rfl
  have b9 : Binds K d9 ["one", "other"] [] := F9.binds fun _ _ _ _ _ _ us hl => match us, hl with | [_, _], _ => rfl
  have b10 : Binds K d10 ["signs", "line"] [] := F10.binds fun _ _ _ _ _ _ us hl => match us, hl with | [_, _], _ => rfl
  have b11 : Binds K d11 ["value", "words"] [] := F11.binds fun _ _ _ _ _ _ us hl => match us, hl with | [_, _], _ => rfl
  have b12 : Binds K d12 ["signs", "value"] [] := F12.binds fun _ _ _ _ _ _ us hl => match us, hl with | [_, _], _ => rfl
  have b13 : Binds K d13 ["signs", "value"] [] := F13.binds fun _ _ _ _ _ _ us hl => match us, hl with | [_, _], _ => rfl
  have b14 : Binds K d14 ["signs", "rules"] [] := F14.binds fun _ _ _ _ _ _ us hl => match us, hl with | [_, _], _ => rfl
  have b15 : Binds K d15 ["rules"] [] := F15.binds fun _ _ _ _ _ _ us hl => match us, hl with | [_], _ => rfl
  have b16 : Binds K d16 ["index", "line"] [] := F16.binds fun _ _ _ _ _ _ us hl => match us, hl with | [_, _], _ => rfl
  have b17 : Binds K d17 ["indexes", "line"] [] := F17.binds fun _ _ _ _ _ _ us hl => match us, hl with | [_, _], _ => rfl
  have b18 : Binds K d18 ["index"] [] := F18.binds fun _ _ _ _ _ _ us hl => match us, hl with | [_], _ => rfl
  have b19 : Binds K d19 ["signs", "indexes", "lines", "known"] [] := F19.binds fun _ _ _ _ _ _ us hl => match us, hl with | [_, _, _, _], _ => rfl
  have b20 : Binds K d20 ["signs", "indexes", "line", "uneven"] [] := F20.binds fun _ _ _ _ _ _ us hl => match us, hl with | [_, _, _, _], _ => rfl
  have b21 : Binds K d21 ["signs", "index"] [] := F21.binds fun _ _ _ _ _ _ us hl => match us, hl with | [_, _], _ => rfl
  have b22 : Binds K d22 ["signs", "uneven"] [] := F22.binds fun _ _ _ _ _ _ us hl => match us, hl with | [_, _], _ => rfl
  have b23 : Binds K d23 ["signs", "indexes", "uneven"] [] := F23.binds fun _ _ _ _ _ _ us hl => match us, hl with | [_, _, _], _ => rfl
  have b24 : Binds K d24 ["signs", "index"] [] := F24.binds fun _ _ _ _ _ _ us hl => match us, hl with | [_, _], _ => rfl
  have b25 : Binds K d25 ["signs", "one", "other"] [] := F25.binds fun _ _ _ _ _ _ us hl => match us, hl with | [_, _, _], _ => rfl
  have b26 : Binds K d26 ["signs", "line", "uneven"] [] := F26.binds fun _ _ _ _ _ _ us hl => match us, hl with | [_, _, _], _ => rfl
  have b27 : Binds K d27 ["cells"] [] := F27.binds fun _ _ _ _ _ _ us hl => match us, hl with | [_], _ => rfl
  have b28 : Binds K d28 ["self", "signs", "rules"] [] := F28.binds fun _ _ _ _ _ _ us hl => match us, hl with | [_, _, _], _ => rfl
  have b29 : Binds K d29 ["self"] [] := F29.binds fun _ _ _ _ _ _ us hl => match us, hl with | [_], _ => rfl
  have b30 : Binds K d30 ["self"] [] := F30.binds fun _ _ _ _ _ _ us hl => match us, hl with | [_], _ => rfl
  have b31 : Binds K d31 ["self", "line"] [] := F31.binds fun _ _ _ _ _ _ us hl => match us, hl with | [_, _], _ => rfl
  have b32 : Binds K d32 ["self", "other"] [] := F32.binds fun _ _ _ _ _ _ us hl => match us, hl with | [_, _], _ => rfl
  have b33 : Binds K d33 ["self", "times"] [] := F33.binds fun _ _ _ _ _ _ us hl => match us, hl with | [_, _], _ => rfl
  have b34 : Binds K d34 ["self", "other"] [] := F34.binds fun _ _ _ _ _ _ us hl => match us, hl with | [_, _], _ => rfl
  have b35 : Binds K d35 ["self", "other"] [] := F35.binds fun _ _ _ _ _ _ us hl => match us, hl with | [_, _], _ => rfl
  have b36 : Binds K d36 ["self"] [] := F36.binds fun _ _ _ _ _ _ us hl => match us, hl with | [_], _ => rfl
  have b37 : Binds K d37 ["self", "what", "limit"] [] := F37.binds fun _ _ _ _ _ _ us hl => match us, hl with | [_, _, _], _ => rfl
  have b38 : Binds K d38 ["_law_script", "_law_k"] [] := F38.binds fun _ _ _ _ _ _ us hl => match us, hl with | [_, _], _ => rfl
  have b39 : Binds K d39 ["_law_pot_here", "_law_much"] [] := F39.binds fun _ _ _ _ _ _ us hl => match us, hl with | [_, _], _ => rfl
  have b40 : Binds K d40 ["_law_pot_here", "_law_some"] [] := F40.binds fun _ _ _ _ _ _ us hl => match us, hl with | [_, _], _ => rfl
  have b41 : Binds K d41 ["_law_pot_here", "_law_some"] [] := F41.binds fun _ _ _ _ _ _ us hl => match us, hl with | [_, _], _ => rfl
  have b42 : Binds K d42 ["_law_pot_here", "_law_most"] [] := F42.binds fun _ _ _ _ _ _ us hl => match us, hl with | [_, _], _ => rfl
  have b43 : Binds K d43 ["_law_pot_here", "_law_abc_here", "_law_most"] [] := F43.binds fun _ _ _ _ _ _ us hl => match us, hl with | [_, _, _], _ => rfl
  have b44 : Binds K d44 ["_law_pot_here", "_law_abc_here", "_law_lot", "_law_most"] [] := F44.binds fun _ _ _ _ _ _ us hl => match us, hl with | [_, _, _, _], _ => rfl
  have b45 : Binds K d45 ["_law_deals_here", "_law_note_here"] [] := F45.binds fun _ _ _ _ _ _ us hl => match us, hl with | [_, _], _ => rfl
  have b46 : Binds K d46 ["_law_stages", "_law_note_here"] [] := F46.binds fun _ _ _ _ _ _ us hl => match us, hl with | [_, _], _ => rfl
  have b47 : Binds K d47 ["_law_abc_here", "_law_most"] [] := F47.binds fun _ _ _ _ _ _ us hl => match us, hl with | [_, _], _ => rfl
  have b48 : Binds K d48 ["_law_stages", "_law_note_here"] [] := F48.binds fun _ _ _ _ _ _ us hl => match us, hl with | [_, _], _ => rfl
  have b49 : Binds K d49 ["_law_abc_here", "_law_stages"] [] := F49.binds fun _ _ _ _ _ _ us hl => match us, hl with | [_, _], _ => rfl
  have b50 : Binds K d50 ["_law_cards"] [] := F50.binds fun _ _ _ _ _ _ us hl => match us, hl with | [_], _ => rfl
  have b51 : Binds K d51 ["_law_deed"] [] := F51.binds fun _ _ _ _ _ _ us hl => match us, hl with | [_], _ => rfl
  have b52 : Binds K d52 ["_law_abc_here", "_law_stages"] [] := F52.binds fun _ _ _ _ _ _ us hl => match us, hl with | [_, _], _ => rfl
  have b53 : Binds K d53 ["_law_pot_here", "_law_abc_here", "_law_first", "_law_second", "_law_plans"] [] := F53.binds fun _ _ _ _ _ _ us hl => match us, hl with | [_, _, _, _, _], _ => rfl
  have b54 : Binds K d54 ["_law_abc_here", "_law_plans"] [] := F54.binds fun _ _ _ _ _ _ us hl => match us, hl with | [_, _], _ => rfl
  have b55 : Binds K d55 ["_law_pot_here", "_law_abc_here", "_law_deals_here", "_law_plan"] [] := F55.binds fun _ _ _ _ _ _ us hl => match us, hl with | [_, _, _, _], _ => rfl
  have b56 : Binds K d56 ["_law_pot_here", "_law_abc_here", "_law_deals_here", "_law_plan"] [] := F56.binds fun _ _ _ _ _ _ us hl => match us, hl with | [_, _, _, _], _ => rfl
  have b57 : Binds K d57 ["_law_pot_here"] [] := F57.binds fun _ _ _ _ _ _ us hl => match us, hl with | [_], _ => rfl
  have b58 : Binds K d58 ["_law_script"] [] := F58.binds fun _ _ _ _ _ _ us hl => match us, hl with | [_], _ => rfl
  have kI : KBn K d28 ["self", "signs", "rules"] 1 ["rules", "signs"] swp swp := kbn_of F28 (fun _ _ _ _ _ _ us ws l1 l2 => match us, ws, l1, l2 with | [_], [_, _], _, _ => rfl) swp_rel
  have kC : KBn K d31 ["self", "line"] 1 ["line"] (fun us ws => us ++ ws) (fun vs zs => vs ++ zs) := kbn_of F31 (fun _ _ _ _ _ _ us ws l1 l2 => match us, ws, l1, l2 with | [_], [_], _, _ => rfl) fun a b => a.append b
  have kP : KBn K d33 ["self", "times"] 1 ["times"] (fun us ws => us ++ ws) (fun vs zs => vs ++ zs) := kbn_of F33 (fun _ _ _ _ _ _ us ws l1 l2 => match us, ws, l1, l2 with | [_], [_], _, _ => rfl) fun a b => a.append b
  have mIs := fr "isinstance" (by decide)
  have mSt := fr "str" (by decide)
  have mLe := fr "len" (by decide)
  have mAl := fr "all" (by decide)
  have mZi := fr "zip" (by decide)
  have mLi := fr "list" (by decide)
  have mTu := fr "tuple" (by decide)
  have mEn := fr "enumerate" (by decide)
  have mRa := fr "range" (by decide)
  have mMi := fr "min" (by decide)
  have mDi := fr "divmod" (by decide)
  have mIn := fr "int" (by decide)
  have mAb := fr "abs" (by decide)
  have mMa := fr "max" (by decide)
  have mSo := fr "sorted" (by decide)
  have mRe := fr "repr" (by decide)
  have mDc := fr "dict" (by decide)
  have mBo := fr "bool" (by decide)
  have mAr := fr "ArithmeticError" (by decide)
  have TT : RTxt K mg (He.ga K "Relay") := ⟨T.cl, T.n1, T.n2, T.n3, g2 "Relay" (by decide)⟩
  have eg : EgC2 K mg "TooMany" whT liT (He.ga K "TooMany") (er "TooMany" K) := egA2 T.eg (g2 "TooMany" (by decide))
  have eh : ErH K mg (He.ga K "TooMany") (He.ga K "LimitError") := ⟨g2 "TooMany" (by decide), g2 "LimitError" (by decide), eg.xf, eg.no1, eg.no2, eg.ec, T.tt, T.kl, T.ka⟩
  refine ⟨d58, g2 "law" (by decide), bind_one F58 (fun _ _ _ _ _ _ _ => rfl), fun base hB hN TB => ?_⟩
  · have L2_ : LamT (tabsT K) base mg (He.cT K lam2).1 (He.cT K lam2).2 twoQ := ⟨TB _ (by simp), by simp [tabsT], fun z hz e => by
      simp only [tabsT, List.mem_cons, List.mem_nil_iff, or_false] at hz
      rcases hz with rfl | rfl | rfl
      · rfl
      · exact absurd e.symm T.q1
      · exact absurd e.symm T.q2⟩
    have L3_ : LamT (tabsT K) base mg (He.cT K lam3).1 (He.cT K lam3).2 treQ := ⟨TB _ (by simp), by simp [tabsT], fun z hz e => by
      simp only [tabsT, List.mem_cons, List.mem_nil_iff, or_false] at hz
      rcases hz with rfl | rfl | rfl
      · exact absurd e T.q1
      · rfl
      · exact absurd e.symm T.q3⟩
    have LP_ : LamT (tabsT K) base mg (He.cT K lamP).1 (He.cT K lamP).2 powQ := ⟨TB _ (by simp), by simp [tabsT], fun z hz e => by
      simp only [tabsT, List.mem_cons, List.mem_nil_iff, or_false] at hz
      rcases hz with rfl | rfl | rfl
      · exact absurd e T.q2
      · exact absurd e T.q3
      · rfl⟩
    have o37 : FnOk P w K mg base CX0 1 _ d37 ["self", whT, liT] (spEr2 K whT liT) := ok_er2 F37 ⟨rfl, rfl, rfl, by decide +kernel, rfl, by decide +kernel, by decide +kernel⟩ rfl (.inl rfl) (.inl rfl) (.inl rfl) (by decide) (by decide) (by decide) (by decide) (fun _ => rfl) (fun _ => rfl)
    let et : ErT P w K mg base := ⟨He.ga K "TooMany", er "TooMany" K, d37, eg, o37, b37⟩
    have o5 : FnOk P w K mg base CX0 1 _ d5 ["signs", "value"] spLine := ok_isline F5 mIs mSt
    have o4 := ok_issigns F4 o5 b5 F5.kp (g1 "is_line" (by decide)) mC mIs mSt mLe mAl mZi
    have o3 : FnOk P w K mg base CX0 1 _ d3 ["value"] spIsList := ok_islist F3 mIs mLi mTu
    have o8 := ok_checksigns F8 o4 b4 F4.kp (g1 "is_signs" (by decide))
    have o10 := ok_checkline F10 o5 b5 F5.kp (g1 "is_line" (by decide))
    have o12 := ok_ruleline F12 o5 b5 F5.kp (g1 "is_line" (by decide)) mM1 mLe
    have o11 : FnOk P w K mg base CX0 1 _ d11 ["value", "words"] (spWord K) := ok_isword F11 mIs mSt
    have o13 := ok_isrule F13 o12 b12 F12.kp (g1 "is_rule_line" (by decide)) o11 b11 F11.kp (g1 "is_word" (by decide)) mW (He.tupB_ok T.iw) mIs mTu mLe
    have o14 := ok_checkrules F14 o3 b3 F3.kp (g1 "is_list" (by decide)) o13 b13 F13.kp (g1 "is_rule" (by decide)) mEn
    have o15 : FnOk P w K mg base CX0 1 _ d15 ["rules"] spIndex := ok_index F15 mEn
    have o16 : FnOk P w K mg base CX0 1 _ d16 ["index", "line"] spOnce := ok_once F16 mM1 mLe mRa mMi
    have cOnce := ca_of F16 (g1 "turned_once" (by decide)) o16 b16
    have o6 : FnOk P w K mg base CX0 1 _ d6 ["line"] spOrder := ok_order F6 mLe
    have o7 := ok_inOrder F7 mSo mLi (g1 "line_order" (by decide)) o6 b6
    have cOrd := ca_of F7 (g1 "in_order" (by decide)) o7 b7
    have o17 := ok_through F17 cOnce
    have cThr := ca_of F17 (g1 "turned_through" (by decide)) o17 b17
    have o18 := ok_begin F18 mRa mLe (g1 "in_order" (by decide)) F7.kp o7 b7
    have cBeg := ca_of F18 (g1 "beginnings" (by decide)) o18 b18
    have o20 := ok_even F20 cThr
    have o19 := ok_uneven F19 mDc (ca_of F20 (g1 "is_even_by_signs" (by decide)) o20 b20)
    have cUnl := ca_of F19 (g1 "uneven_lines" (by decide)) o19 b19
    have o21 := ok_unevenOf F21 cUnl cBeg
    have cUno := ca_of F21 (g1 "uneven_of" (by decide)) o21 b21
    have o22 := ok_chkX F22 et mLe mM4
    have o23 := ok_cells F23 cOrd cThr
    have cCel := ca_of F23 (g1 "cells_of" (by decide)) o23 b23
    have o24 := ok_table F24 cCel cUno
    have cTab := ca_of F24 (g1 "table_of" (by decide)) o24 b24
    have o26 : FnOk P w K mg base CX0 1 _ d26 ["signs", "line", "uneven"] spEnds := ok_ends F26 mLe
    have o25 := ok_prodX F25 cCel cUno (cx_of F22 (g1 "check_cells" (by decide)) o22 b22) (ca_of F26 (g1 "uneven_ends" (by decide)) o26 b26) cUnl cOrd
    have o27 := ok_chgX et F27 mM1 mLe mMa
    have o9 : FnOk P w K mg base CX0 1 _ d9 ["one", "other"] spSame := ok_same F9
    have cSam := ca_of F9 (g1 "check_same_signs" (by decide)) o9 b9
    have o0 : FnOk P w K mg base CX0 1 _ d0 ["value"] spInt1 := ok_isint F0 mIs mIn mBo
    have o1 := ok_iscount F1 (ca_of F0 (g1 "is_integer" (by decide)) o0 b0)
    have o2 := ok_chkcount F2 (ca_of F1 (g1 "is_count" (by decide)) o1 b1)
    have o28 := ok_init F28 TT o8 b8 F8.kp (g1 "check_signs" (by decide)) o14 b14 F14.kp (g1 "check_rules" (by decide)) o15 b15 F15.kp (g1 "rule_index" (by decide)) mLe mM2
    have o31 := ok_call F31 TT o10 b10 F10.kp (g1 "check_line" (by decide)) o16 b16 F16.kp (g1 "turned_once" (by decide))
    let R : RelF P w K mg base := ⟨He.ga K "Relay", TT, T.it, _, d28, T.mk_, o28, b28, kI, _, _, d29, T.pr, ok_get F29 TT, b29, _, d30, T.m0, ok_rules F30 TT mLi, b30, _, d31, T.cc, o31, b31, kC, _, d35,
      ⟨T.cl, T.m4.at_, T.m4.fn, b35, T.kin, T.ne, T.it.hm⟩, ok_eq F35 TT T.it mIs, _, d36, T.m5.at_, T.m5.fn, ok_repr F36 TT, b36⟩
    have tM : MulT K (He.ga K "Relay") (me "__mul__" K) d32 := ⟨T.cl, T.m3.at_, T.m3.fn, T.sf, b32⟩
    have oM := ok_mulX (CT := He.ga K "TooMany") R F32 cSam (cx_of F25 (g1 "product_table" (by decide)) o25 b25) (cx_of F27 (g1 "changing_cells" (by decide)) o27 b27)
    have oP := ok_powX R F33 et (ca_of F2 (g1 "check_count" (by decide)) o2 b2) tM oM mRa mM6
    have oA := ok_alike F34 TT cSam cTab
    let U : RelP P w K mg base R (He.ga K "TooMany") := ⟨_, d32, tM, oM, _, d34, T.m2, oA, b34, _, d33, T.m1, oP, b33, kP⟩
    have o39 : FnOk P w K mg base CX0 1 _ d39 ["_law_pot_here", "_law_much"] spDraw := ok_draw F39 mDi mIn
    have cDra := ca_of F39 (g2 "_law_draw" (by decide)) o39 b39
    have o38 : FnOk P w K mg base CX0 1 _ d38 ["_law_script", "_law_k"] (spPot K) := ok_pot F38 mAb mLe mMa mIn
    have o40 := ok_pick F40 o39 b39 F39.kp (g2 "_law_draw" (by decide)) mLe
    have cPic := ca_of F40 (g2 "_law_pick" (by decide)) o40 b40
    have o42 := ok_abc F42 o39 b39 F39.kp (g2 "_law_draw" (by decide)) mLi mLe mRa mSo
    have o43 := ok_note F43 o39 b39 F39.kp (g2 "_law_draw" (by decide)) o40 b40 F40.kp (g2 "_law_pick" (by decide)) mRa
    have cNot := ca_of F43 (g2 "_law_note" (by decide)) o43 b43
    have o44 := ok_deals2 F44 o39 b39 F39.kp (g2 "_law_draw" (by decide)) o40 b40 F40.kp (g2 "_law_pick" (by decide)) o43 b43 F43.kp (g2 "_law_note" (by decide)) mRa
    have o45 : FnOk P w K mg base CX0 1 _ d45 ["_law_deals_here", "_law_note_here"] (spTurn K) := ok_turn F45 mLe
    have cTur := ca_of F45 (g2 "_law_turn" (by decide)) o45 b45
    have o46 := ok_thr F46 cTur
    have cThu := ca_of F46 (g2 "_law_through" (by decide)) o46 b46
    have o47 : FnOk P w K mg base CX0 1 _ d47 ["_law_abc_here", "_law_most"] spNotesX := ok_notesX F47 mRa
    have cNts := ca_of F47 (g2 "_law_notes" (by decide)) o47 b47
    have o48 := ok_short F48 mLe cTur
    have o49 := ok_lawCells F49 mLe mDc (ca_of F48 (g2 "_law_is_short" (by decide)) o48 b48) cThu
    have cLC := ca_of F49 (g2 "_law_cells" (by decide)) o49 b49
    have o50 : FnOk P w K mg base CX0 1 _ d50 ["_law_cards"] (spChanged K) := ok_changed F50
    have cHg := ca_of F50 (g2 "_law_changed" (by decide)) o50 b50
    have o52 := ok_due F52 mMa mLe cLC cHg
    have cDu := ca_of F52 (g2 "_law_due" (by decide)) o52 b52
    have o53 := ok_two2 F53 (code_at (p := lam2) F53) L2_ R U F51 b51 (g2 "_law_heard" (by decide)) eh mIs mAr mRe mRa cDu cNts cNot cThu
    have o54 := ok_three F54 (code_at (p := lam3) F54) L3_ R F51 b51 (g2 "_law_heard" (by decide)) eh tM oM mIs mAr
    have o55 := ok_iden F55 R U mRe cPic cHg cLC
    have o56 := ok_pows F56 (code_at (p := lamP) F56) LP_ R U F51 b51 (g2 "_law_heard" (by decide)) eh mIs mAr mRe mRa cDu cDra
    have o57 := ok_right F57 R (fun L => ok_reprN F36 TT L) mRa mLe mRe (ca_of F42 (g2 "_law_abc" (by decide)) o42 b42) (ca_of F44 (g2 "_law_deals" (by decide)) o44 b44) (cg_of F53 (g2 "_law_two_right" (by decide)) o53 b53) (cg_of F54 (g2 "_law_three_right" (by decide)) o54 b54) (cg_of F55 (g2 "_law_identity_right" (by decide)) o55 b55) (cg_of F56 (g2 "_law_powers_right" (by decide)) o56 b56)
    exact ok_law F58 mAl mRa mMa mMi mLe (ca_of F38 (g2 "_law_pot" (by decide)) o38 b38) (cg_of F57 (g2 "_law_right" (by decide)) o57 b57)
end K23
set_option maxHeartbeats 0
open PySem PySem.W PySem.Calls PyProof.Rows L2
theorem PySem.Challenge.cw_frontlines_k23_whole_products_holds : PySem.Challenge.rw_frontlines_k23_whole_products.Holds := by
  w_on; o_law
  refine HandSHeadRun.head_any (r := K23.R) (q := view K23.R.prog [72]) (H := K23.hk) (ob := K23.ob) (M := 20000) (loose := K23.loose) (d := HandSHeadRun.topDef K23.R.prog 72) (kwd := []) (fun s => FL.obL_eq s)
    (by kernel_rfl) (fun s => by kernel_rfl) K23.run (by kernel_rfl) (by kernel_rfl) (by kernel_rfl) (by rfl) (by first | assumption | decide +kernel) (by decide +kernel) ⟨rfl, rfl, rfl, rfl, rfl, by decide +kernel⟩ ?hw ?hc
  case hw => w_witness2
  case hc =>
    refine FL.walkTs (l := PySem.Challenge.rw_frontlines_k23_whole_products) (n := 63) (k := 14) (x := "_law_script") rfl (by decide) (by kernel_rfl) ⟨rfl, by decide, by decide⟩ ?_
    intro w mg fa h Y G hmg0
    obtain ⟨K, KX, c, ct⟩ := Y
    have hmg : mg ("law" : PySem.Str) = some (.ref fa) := by
      have e : (HandSHeadRun.topDef K23.R.prog 72).name = ("law" : PySem.Str) := by kernel_rfl
      rw [← e]
      exact hmg0
    obtain ⟨fd, e1, bd, hF⟩ := K23.whole (P := PySem.Challenge.rw_frontlines_k23_whole_products.prog) (w := w) KX G c
    have e2 := hmg.symm.trans e1
    cases e2
    refine ⟨K, fd, K23.spLawT K (K23.tabsT K), K23.lams.map (He.cT K), KX, fun p hp => ?_, fun p hp => ?_, fun p hp => ?_, bd, fun H a ns hl t0 hS => ⟨a, ns, rfl, hS, hl, fun q hq => ?_, fun _ => rfl⟩, fun base hB hN tb => hF base hB hN fun p hp => tb _ (List.mem_map.mpr ⟨p, hp, rfl⟩)⟩
    · obtain ⟨d, hd, rfl⟩ := List.mem_map.mp hp
      exact c.tab _ hd
    · obtain ⟨d, hd, rfl⟩ := List.mem_map.mp hp
      exact c.out _ hd
    · obtain ⟨d, hd, rfl⟩ := List.mem_map.mp hp
      exact PySem.W.codeHd_of_K KX (c.code _ hd)
    · have t1 : ∀ d ∈ K23.lams, H (He.cT K d).2 = some (.tbl #[]) := fun d hd => t0 _ (List.mem_map.mpr ⟨d, hd, rfl⟩)
      simp only [K23.tabsT, List.mem_cons, List.mem_nil_iff, or_false] at hq
      rcases hq with rfl | rfl | rfl
      · exact LamX.TabS.nil (t1 K23.lam2 (by simp))
      · exact LamX.TabS.nil (t1 K23.lam3 (by simp))
      · exact LamX.TabS.nil (t1 K23.lamP (by simp))
