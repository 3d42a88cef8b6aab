import PyProof.Rows.All
import Wide.All
import OpenK.AllK
import Wide.FinOn
import HandS.ForMost
import HandS.Exc
import HandS.TryOnly
import HandS.ExcOwn
import HandS.WordsExc
import HandS.Evl
import HandS.IsInst
import HandS.ExcIs
import HandS.DictTup
import HandS.SortInts
import HandS.SortRule
import HandS.Wide
import HandS.More
import HandS.Walk
import HandS.Conv
import HandS.TupSets
import HandS.Deep
import PySem.Challenge.RW_joinside_k02_parts_and_opposites
set_option Elab.async false
set_option maxRecDepth 100000
set_option maxHeartbeats 4000000
set_option linter.all false
namespace Jk
open PySem PySem.Spec PyProof.Rows L2

/-! ## an exception that is kept as a value behind its except suite -/
/-- an exception object of the class cls (own dict d) stands at a -/
def ExK (cls : Value) (d : Option Addr) (a : Addr) : HO := .ext fun h => ∃ (ob : Obj) (fv : Array Value), h.get? a = some ob ∧ Zc cls d ob ∧ ob.data = .fields fv
theorem exK_ok {P : Program} {w : World} {H : Hp} {h : Heap} {a : Addr} {cls : Value} {d : Option Addr} {ob : Obj} {fv : Array Value} (e : h.get? a = some ob) (z : Zc cls d ob) (dd : ob.data = .fields fv) : ObjOk P w H h a (ExK cls d a) :=
  ⟨⟨ob, fv, e, z, dd⟩, ⟨ob, e⟩, fun _ _ ⟨o1, v1, q1, r1⟩ kk => ⟨o1, v1, kk o1 q1, r1⟩⟩

section
variable {X : Cx} {pins : List (Addr × Obj)} {σ : L2.St} {H : Hp} {s : Shared}
/-- an untracked record of ours, new since the entry, is tracked from here on -/
theorem Inv.track {a : Addr} {ob : Obj} {o : HO} (I : Inv X pins σ H s) (ea : s.heap.get? a = some ob) (hn : H a = none) (new : X.s_0.heap.get? a = none) (hex : a ∉ X.ex)
    (nL : a ≠ X.env.locals) (nc : ∀ v, ob.data ≠ .cell v) (np : ∀ p ∈ X.pn ++ pins, p.1 ≠ a) (ok : ObjOk X.prog X.w (upd H a o) s.heap a o) : Inv X pins σ (upd H a o) s := by
  have neT : ∀ {b u}, H b = some u → b ≠ a := fun {b u} q z => by rw [z, hn] at q; cases q
  have neZ : ∀ {b u}, X.s_0.heap.get? b = some u → b ≠ a := fun {b u} q z => by rw [z, new] at q; cases q
  have old := I.base
  refine ⟨I.ok, I.os, I.bare, ⟨old.keep, old.slot, fun b u e1 e2 e3 => ?_, old.there, fun b xs e1 => ?_, fun b u v e1 => ?_, fun b ps e1 => ?_⟩, I.loc, I.cell, ?_, fun x c e1 => ?_, fun p hp => ?_, fun b u e1 => ?_, I.len⟩
  · rw [upd_ne (neZ e1)]; exact old.free b u e1 e2 e3
  · have q := old.tups b xs e1
    rw [upd_ne (neT q)]; exact q
  · have q := old.frzs b u v e1
    rw [upd_ne (neT q)]; exact q
  · obtain ⟨m, q⟩ := old.tbls b ps e1
    exact ⟨m, by rw [upd_ne (neT q)]; exact q⟩
  · rw [upd_ne (Ne.symm nL)]; exact I.free
  · have hc : c ≠ a := fun z => by
      obtain ⟨v, o', q, hd⟩ := I.cell x c e1
      rw [z, ea] at q; cases q
      exact nc v hd
    rw [upd_ne hc]; exact I.freeC x c e1
  · obtain ⟨p1, p2, p3⟩ := I.pin p hp
    exact ⟨p1, by rw [upd_ne (np p hp)]; exact p2, p3⟩
  · by_cases hb : b = a
    · subst hb
      rw [upd_same] at e1; cases e1
      exact ok
    · rw [upd_ne hb] at e1
      refine (I.hok b u e1).stay (fun c v _ q => q) (fun c q => ?_) fun c xs q => ?_
      · rw [upd_ne (neT q)]; exact q
      · rw [upd_ne (neT q)]; exact q
end

/-- what 'except x as n: suite' wishes, where the exception stays a value behind the suite: slot i is n's -/
def wKeep (K : PySem.W.Frag) (c : Value) (i : Nat) (ts : Addr → Value → Option Addr → TS) (Wout : WX) (D : Ends) : WX := fun cls d σ H =>
  ∃ b, PySem.W.exmOne K cls c = some b ∧
    (b = true → ∀ a, H a = none → ts a cls d { nx := fun σ' H' => H' a = none → D.nx (σ'.set i none) (upd H' a (ExK cls d a)), rt := fun _ _ => False, bk := fun _ _ => False, ct := fun _ _ => False } (σ.set i (some (.ref a))) H) ∧
    (b = false → Wout cls d σ H)

section
variable {X : Cx} {x n : Str} {c : Value} {i : Nat} {body suite : List Stmt} {b₀ : Stmt} {np pos pos' : Pos} {tb : WX → TS} {ts : Addr → Value → Option Addr → TS} {Wout : WX}
theorem ps_try_keep (hst : X.stack = X.env :: X.outer) (hfr : X.env.frame = some X.env.locals) (hex : X.ex = []) (hpn : X.pn = []) (hnd : X.N.Nodup) (hi : X.N[i]? = some n) (hln : X.env.kindOf n = some .local) (hc : Names X x c) (tk : Takes X Wout)
    (hb : ∀ (W : WX) (pn : List (Addr × Obj)) (xe : Value → Shared → Prop), Takes (X.tr pn xe) W → PassesOwn (model X.prog X.w) X.A X.env xe → PSs (X.tr pn xe) body (tb W))
    (hsu : ∀ (a : Addr) (oe : Obj) (cls : Value) (d : Option Addr) (pn : List (Addr × Obj)), Zc cls d oe → (∃ vs, oe.data = .fields vs) → PSs (X.suite a ((a, oe) :: pn)) (b₀ :: suite) (ts a cls d)) :
    PS X (.Try body [.ExceptHandler (some (.Name x np)) (some n) (b₀ :: suite) pos'] [] [] pos) (fun D σ H => tb (wKeep X.K c i ts Wout D) D σ H) := by
  refine ⟨fun pins s σ H D I h => ?_⟩
  have good := I.ok
  have hA : X.A.frames = some (X.env :: X.outer) := by rw [good.frames, hst]
  refine wpAny_Try_except ?_
  refine wpAny_mono ((hb (wKeep X.K c i ts Wout D) (X.pn ++ pins) (fun e s₁ => wpAny (model X.prog X.w) X.A (noteFrame e X.env) (fun _ s₂ => wpAny (model X.prog X.w) X.A (setFlight e none) (fun _ s₃ =>
    wpAny (model X.prog X.w) X.A (handleBy e X.env [.ExceptHandler (some (.Name x np)) (some n) (b₀ :: suite) pos']) (SP X pins D) X.xe s₃) X.xe s₂) X.xe s₁) (fun u s' xx => ?_) PassesOwn.looking).run [] s σ H D (I.toTry _) h) (fun f s1 hsp => ?_) (fun e s1 he => he)
  · obtain ⟨a, B, sI, pin1, σ1, H1, cls, d, rfl, J0, nb, up, sky, na, os, ag, b, hbx, hyes, hno⟩ := xx
    have J : Inv X pins σ1 H1 sI := J0.ofTry good
    have sk : Sky B (X.env :: X.outer) a (Zc cls d) X.env.locals s'.heap := by rw [← hst]; exact sky
    -- the exception is none of the entry's objects
    have sIa : sI.heap.get? a = none ∨ a ∈ frs X.stack := by
      cases q : sI.heap.get? a with
      | none => exact .inl rfl
      | some o =>
        by_cases hm : a ∈ frs X.stack
        · exact .inr hm
        · have z := nb a o q hm
          have Ba : B.get? a = none := by
            rcases sk with ⟨_, r, _⟩ | ⟨_, r, _⟩ | ⟨_, r, _⟩ <;> exact r
          rw [Ba] at z; cases z
    show wpAny (model X.prog X.w) X.A (noteFrame (.ref a) X.env) _ _ _
    refine Sky.land Zc.steady hA hfr sk fun h3 fl3 up3 => ?_
    have J3 : Inv X pins σ1 H1 { s' with heap := h3 } := J.landed nb fl3.1 (up.trans up3) os ag
    obtain ⟨oe3, vs3, he3, hz3, hd3⟩ := fl3.there
    have notFr : ∀ {g : Heap} {o : Obj} {vs : Array Value}, g.FunFrames B (X.env :: X.outer) → g.get? a = some o → o.data = .fields vs → a ∉ frs (X.env :: X.outer) := fun {g o vs} ff e dd hm => by
      obtain ⟨_, o', e', hnf⟩ := ff.mem hm
      rw [e] at e'; cases e'
      exact hnf _ dd
    have nfr := notFr fl3.2.2.1 he3 hd3
    have sIn : sI.heap.get? a = none := sIa.resolve_right (by rw [hst]; exact nfr)
    have new0 : X.s_0.heap.get? a = none := by
      cases q : X.s_0.heap.get? a with
      | none => rfl
      | some o =>
        obtain ⟨o', q'⟩ := J.base.there a o q (by rw [hex]; exact fun z => nomatch z)
        rw [sIn] at q'; cases q'
    have nL : a ≠ X.env.locals := fun z => nfr (List.mem_filterMap.mpr ⟨X.env, List.mem_cons_self, by rw [hfr, z]⟩)
    have nF : a ∉ X.fs := fun hm => by
      obtain ⟨e, he, q⟩ := List.mem_filterMap.mp hm
      exact nfr (List.mem_filterMap.mpr ⟨e, List.mem_cons_of_mem _ he, q⟩)
    have npin : ∀ p ∈ X.pn ++ pins, p.1 ≠ a := fun p hp z => by
      have q := (J.pin p hp).1
      rw [z, sIn] at q; cases q
    have S3 := J3.suite he3 hd3 na nL nF
    refine wpAny_handleBy_cons (codeAny_handlers_test ?_) (by intro q; cases q)
    have LT : PySem.W.Looks (model X.prog X.w) h3 (typeOf (.ref a)) cls := fun A Q E s k q => wpAny_typeOf_ref (k _ _ he3) (by rw [hz3.1]; exact q)
    have LM := PySem.W.exm_one (M := model X.prog X.w) (J3.kIn) LT hbx
    have test : ∀ {Q : Value → Shared → Prop} {E : Value → Shared → Prop}, Q c { s' with heap := h3 } → wpAny (model X.prog X.w) (X.A.mark (some (.ref a))) (eval (.Name x np) X.env) Q E { s' with heap := h3 } := fun {Q E} q => by
      obtain ⟨hg, hdbg, hm | ⟨hm, hv, hnn⟩⟩ := hc
      · exact ld_glob (X := X.suite a ((a, oe3) :: (X.pn ++ pins))) S3 hg hm q hdbg
      · exact ld_blt (X := X.suite a ((a, oe3) :: (X.pn ++ pins))) S3 hg hm hv q hnn hdbg
    refine test (LM.here ?_)
    cases b with
    | true =>
      refine codeAny_handlers_suite_as ?_
      refine HandSPX.lands_againZ fl3 fun h4 fl4 up4 => ?_
      have J4 : Inv X pins σ1 H1 { s' with heap := h4 } := J.landed nb fl4.1 ((up.trans up3).trans up4) os ag
      obtain ⟨oe4, vs4, he4, hz4, hd4⟩ := fl4.there
      have S4 := J4.suite he4 hd4 na nL nF
      refine store_ok (X := X.suite a ((a, oe4) :: (X.pn ++ pins))) (v := .ref a) S4 hnd hi (.inl hln) rfl (fun s5 S5 => ?_) (.inr hln)
      refine wpAny_mono ((hsu a oe4 cls d (X.pn ++ pins) hz4 ⟨_, hd4⟩).run [] s5 _ H1 _ S5 (hyes rfl a na)) (fun f s6 hsp => ?_) (fun _ _ z => False.elim z)
      cases f with
      | next =>
        obtain ⟨σ6, H6, S6, q6⟩ := hsp
        have pa := S6.pin (a, oe4) (List.mem_append_left _ List.mem_cons_self)
        have h6a : H6 a = none := pa.2.1
        have T6 : Inv X pins σ6 (upd H6 a (ExK cls d a)) s6 := Inv.track (S6.unsuite good) pa.1 h6a new0 (by rw [hex]; exact fun z => nomatch z) nL (fun v z => by rw [hd4] at z; cases z) npin (exK_ok pa.1 hz4 hd4)
        exact gone_ok T6 hnd hi hln fun s7 J7 => ⟨_, _, J7, q6 h6a⟩
      | brk =>
        obtain ⟨_, _, _, q6⟩ := hsp
        exact q6.elim
      | cont =>
        obtain ⟨_, _, _, q6⟩ := hsp
        exact q6.elim
      | ret u =>
        obtain ⟨_, _, _, _, _, q6⟩ := hsp
        exact q6.elim
    | false =>
      show wpAny _ X.A (handleBy (.ref a) X.env []) _ _ _
      refine wpAny_handleBy_nil ?_
      obtain ⟨k1, k2, k3, oe, vs, T, oT, ts', he, hz, hd, h1, hr⟩ := id fl3
      unfold PySem.passOn
      refine wpAny_bind (wpAny_field he hd h1 ?_)
      rw [if_neg (show ¬ ((Value.ref T == Value.none) = true) from by simp)]
      have fin : wpAny (model X.prog X.w) X.A (setFlight (.ref a) X.env.frame) (fun _ s4 => wpAny (model X.prog X.w) X.A (throw (.ref a) : Sem Flow) (SP X pins D) X.xe s4) X.xe { s' with heap := h3 } := by
        rw [hfr]
        refine HandSPX.setFlight_upZ fl3 fun h4 hh4 up4 => wpAny_throw (tk _ _ ?_)
        exact ⟨a, B, sI, pins, σ1, H1, cls, d, rfl, J, nb, (up.trans up3).trans up4, .inr (.inr (by rw [hst]; exact hh4)), na, os, ag, hno rfl⟩
      first
        | exact wpAny_bind (wpAny_pure (wpAny_bind fin))
        | exact wpAny_bind fin
  · cases f with
    | next =>
      obtain ⟨σ', H', J', q⟩ := hsp
      exact wpAny_execs_nil ⟨σ', H', J'.ofTry good, q⟩
    | brk =>
      obtain ⟨σ', H', J', q⟩ := hsp
      exact ⟨σ', H', J'.ofTry good, q⟩
    | cont =>
      obtain ⟨σ', H', J', q⟩ := hsp
      exact ⟨σ', H', J'.ofTry good, q⟩
    | ret u =>
      obtain ⟨v, σ', H', J', r, q⟩ := hsp
      exact ⟨v, σ', H', J'.ofTry good, r, q⟩
end

/-! ## isinstance of such a value -/
def rIsX (K : PySem.W.Frag) : List V → Hp → VK → Prop := fun xs H Q => ∃ (a D : Addr) (c : V) (cv : Value) (b : Bool), xs = [.ref a, c] ∧ H a = some (ExK (.ref D) none a) ∧ ExcC K D ∧ ClsV c cv ∧ PySem.W.kitOne K (.ref D) cv = some b ∧ Q (.bl b) H
theorem call_isX {X : Cx} : CallR X (.builtin "isinstance") (rIsX X.K) := by
  intro pins s σ H xs us Q I r h
  obtain ⟨a, D, c, cv, b, rfl, ha, C, hcv, e, q⟩ := h
  obtain ⟨u1, u2, rfl, r1, r2⟩ := vals2 r
  have e2 := hcv.eq r2
  subst e2
  cases r1
  obtain ⟨⟨ob, fv, hget, hz, hv⟩, _⟩ := I.hok a _ ha
  have J : PySem.W.InstAt s.heap a ob D none := by
    obtain ⟨oc, od, oda, osl⟩ := ob
    obtain ⟨h1, h2⟩ := hz
    dsimp only at h1 h2 hv
    subst h1 h2 hv
    exact ⟨hget, rfl, rfl, trivial⟩
  exact PySem.W.kia_one (PySem.W.handS_kitx_exc C.hg C.hk C.hs C.hd C.ha C.hn C.ht C.hm) I.kIn J e (fun z => nomatch z) fun tk => ⟨.bl b, H, I.kept (t' := tk) fun _ _ z => z, rfl, q⟩
end Jk

namespace Jk
open PySem PySem.Spec PyProof.Rows L2

/-! ## repr of data, where no repr is under way -/
theorem call_reprD {X : Cx} (hg : X.A.guards = some []) (hu : X.A.units + 64 < cLine) : CallR X (.builtin "repr") (fun xs H Q => ∃ (a : Addr) (d : PyData), xs = [.ref a] ∧ Dp X.K H (.ref a) d ∧ d.showable = true ∧ d.hasDict = false ∧ d.depth < 63 ∧ d.shown.length ≤ sizeLine ∧ Q (.str d.shown) H) := by
  intro pins s σ H xs us Q I r h
  obtain ⟨a, d, rfl, hd, h1, h2, h3, h4, q⟩ := h
  obtain ⟨u, rfl, ru⟩ := vals1 r
  obtain ⟨as, rd⟩ := Dp.reads I d _ _ hd ru
  cases ru
  exact PySem.repr_of_reads' rd h1 (fun z => absurd z (by rw [h2]; decide)) hg (by omega) (fun _ _ z => z) (fun h' u tk k => ⟨.str d.shown, H, I.kept (t' := tk) k, ⟨u, rfl⟩, q⟩) h4

/-! ## a def that is called where no repr is under way -/
structure FnG (P : Program) (w : World) (K : PySem.W.Frag) (mg : Str → Option Value) (base : Heap) (k : Nat) (f : Addr) (fd : FuncData) (ps : List Str) (sp : Sp) : Prop where
  many : ∀ vs H Q E, sp vs H Q E → vs.length = ps.length
  runs : ∀ (A : Around) (outer : List Env) (s : Shared) (H : Hp) (args : Args) (us : List Value) (vs : List V) (Q : VK) (E : XK), A.guards = some [] → Room k A → Env0 P w K mg base A outer s H → BindsTo s fd args (ps.zip us) →
    Vals vs us → sp vs H Q E → codeAny (model P w) A (.call (.ref f) args) (CR CX0 outer P w H s Q E) s
theorem guards_deeper {A : Around} {env : Env} (h : A.guards = some []) : (A.deeper env).guards = some [] := h
section
variable {P : Program} {w : World} {K : PySem.W.Frag} {mg : Str → Option Value} {base : Heap}
theorem _root_.L2.Fun.okG {x qual : Str} {st : Stmt} {f : Addr} {fd : FuncData} {N ps : List Str} {k : Nat} {sp : Sp} (F : Fun K x qual st f fd) (S : FnScope N ps (defScope st)) (many : ∀ vs H Q E, sp vs H Q E → vs.length = ps.length)
    (hb : ∀ (cdv : Value) (A : Around) (outer : List Env) (s : Shared) (H : Hp) (vs : List V) (Q : VK) (E : XK), A.guards = some [] → Room k (A.deeper (envOfC qual (defScope st) s.heap.objs.size f cdv)) → sp vs H Q E →
      ∃ t, PSs (cxOf CX0 P w K mg base N qual (defScope st) f cdv A outer s H E).nox (defBody st) t ∧ t { nx := fun _ H' => Q .non H', rt := Q } (L2.start N vs) H) : FnG P w K mg base (k + 1) f fd ps sp := by
  obtain ⟨oc, od, kV, doc, pm, an, cdv, ct, osl, rfl, lk, hcd⟩ := F.ex
  refine ⟨many, fun A outer s H args us vs Q E hg hr e0 hbi r hsp => ?_⟩
  have one : ∀ (sp1 : Sp), sp1 = (fun vs' H' Q' E' => vs' = vs ∧ H' = H ∧ Q' = Q ∧ E' = E) → True := fun _ _ => trivial
  have hl := many _ _ _ _ hsp
  have KX : K.In s.heap := e0.mod.kin.keeps fun b o e => (e0.bs b o e).1
  have lim : s.heap.NoLimit := e0.mod.nolimit.keeps fun b o e => (e0.bs b o e).1
  have kinds : ∀ y ∈ ps.zip us, (defScope st).names.lookup y.1 = some .local ∨ ((defScope st).names.lookup y.1 = some .cell ∧ ((cellsFrom (s.heap.objs.size + 1) (defScope st).names []).lookup y.1).isSome = true) := fun ⟨n, v⟩ hy => by
    rcases S.par n (List.of_mem_zip hy).1 with q | q
    · exact .inl q
    · exact .inr ⟨q, PySem.W.cellsFrom_some _ _ _ (.inl q)⟩
  refine codeAny_call_function hr.depth (KX _ _ lk) rfl S.co S.gen rfl (PySem.W.codeRec_of KX hcd) (hbi _ _ _ _ ?_)
  refine wpAny_newFunctionEnv_cells S.kind kinds fun env he s1 x => ?_
  subst he
  refine ⟨lim.keeps x.toInCall.keep, codeAny_func ?_⟩
  obtain ⟨t, ht, hq⟩ := hb cdv A outer s H vs Q E hg (hr.deeper _) hsp
  have I : Inv (cxOf CX0 P w K mg base N qual (defScope st) f cdv A outer s H E) [] (L2.start N vs) H s1 := inv_start S hr.hd e0 hl r x
  refine wpAny_mono (ht.nox.run [] s1 (L2.start N vs) H _ I hq) (fun fl s' hs => ?_) fun e s' hs => hs
  have fin : ∀ {σ' : L2.St} {H' : Hp} {v : V} {u : Value}, Inv (cxOf CX0 P w K mg base N qual (defScope st) f cdv A outer s H E) [] σ' H' s' → RelV v u → Q v H' → CE outer P w H s Q u s' :=
    fun {σ' H' v u} J rv q => ⟨v, H', J.os, J.bare, J.base, J.hok, rv, q⟩
  cases fl with
  | ret u =>
    obtain ⟨v, σ', H', J, rv, q⟩ := hs
    exact fin J rv q
  | next =>
    obtain ⟨σ', H', J, q⟩ := hs
    exact fin (v := V.non) (u := Value.none) J rfl q
  | brk =>
    obtain ⟨_, _, _, q⟩ := hs
    exact False.elim q
  | cont =>
    obtain ⟨_, _, _, q⟩ := hs
    exact False.elim q
end
section
variable {X : Cx} {k : Nat} {f : Addr} {fd : FuncData} {ps : List Str} {sp : Sp} {x : Str} {p pos : Pos} {e : Expr} {es : List Expr} {t : TA}
/-- f(..) of such a def -/
theorem pe_callG (F : FnG X.prog X.w X.K X.mg X.base k f fd ps sp) (hg0 : X.A.guards = some []) (hr : Room k X.A) (hg : Gl X x) (hm : X.mg x = some (.ref f)) (hk : PySem.W.keepIn X.K (.ref f) = true) (hb : Binds X.K fd ps [])
    (ha : PA X (e :: es) t) (hdb : (x == ("__debug__" : Str)) = false := by decide) (he : starEach (e :: es) X.env = (false, eval e X.env) :: starEach es X.env := by rfl) (hpl : (backTo pos (starEach es X.env)).any (·.1) = false := by rfl) :
    PE X (.Call (.Name x p) (e :: es) [] pos) (tCall sp [] E0 t) := by
  refine ⟨fun pins s σ H Q I h => ?_⟩
  refine wpAny_Call_Name_kw (ld_glob I hg hm ?_ hdb)
  refine PySem.W.callWith_K (h₀ := X.base) I.ok.mod.kin hk (thn (ha.run pos pins s σ H _ I h) fun us s1 ⟨vs, H1, I1, r, q⟩ => ⟨I1.kIn, ?_⟩) he hpl
  have q : sp vs H1 Q E0 := by have z := q; simp only [List.append_nil] at z; exact z
  have hl : (us ++ []).length = ps.length := by rw [List.append_nil, ← r.length]; exact F.many _ _ _ _ q
  have bt := hb s1 us I1.kIn hl
  rw [List.append_nil] at bt
  refine wpAny_call (codeAny_mono (F.runs X.A X.stack s1 H1 ⟨us, []⟩ us vs Q E0 hg0 hr I1.env0 bt r q) fun r s' hq => ?_)
  cases r with
  | error e => exact False.elim hq
  | ok fl =>
    cases fl with
    | ret u => exact I1.after hq
    | next => exact False.elim hq
    | brk => exact False.elim hq
    | cont => exact False.elim hq
end

/-! ## the law's own call, where its def is one of these -/
section
variable {P : Program} {w : World} {K : PySem.W.Frag} {mg mb : Str → Option Value} {k : Nat} {fa a : Addr} {fd : FuncData} {x : Str} {sp : Sp} {z : Shared} {vs : List Value} {ns : List Int}
theorem law_callG (kin : K.In z.heap) (gl : z.heap.Ns mainGlobals mg) (bl : z.heap.Ns builtinsNs mb) (bb : ∀ y : Str, y ≠ "__name__" → mb y = bootBuiltins y) (lim : z.heap.NoLimit) (gens : z.gens = #[])
    (there : z.heap.get? a = some { cls := .type "list", data := .seq vs.toArray }) (hint : IntsAre vs ns) (few : ns.length ≤ sizeLine) (room : Room k callerA)
    (F : ∀ base : Heap, K.In base → base.Ns mainGlobals mg → FnG P w K mg base k fa fd [x] sp) (bind : ∀ (s : Shared) (u : Value), BindsTo s fd ⟨[u], []⟩ [(x, u)])
    (asked : ∀ H : Hp, Only H → SqL K H a (ns.map V.int) → sp [.ref a] H (fun v _ => v = .bl true) fun _ _ _ => False) :
    codeAny (model P w) callerA (.call (.ref fa) ⟨[.ref a], []⟩) (fun r s' => r = .ok (.ret (.bool true)) ∧ OldK z.heap s'.heap ∧ s'.os = z.os ∧ AllBare s'.gens) z := by
  have rel := vals_ints hint
  have len := hint.length
  have core : ∀ G : Hp, Only G → SqL K G a (ns.map V.int) → HOk P w G z.heap → (∀ b, G b ≠ none → b = a) → (G a ≠ none → K.lookup a = none) →
      codeAny (model P w) callerA (.call (.ref fa) ⟨[.ref a], []⟩) (fun r s' => r = .ok (.ret (.bool true)) ∧ OldK z.heap s'.heap ∧ s'.os = z.os ∧ AllBare s'.gens) z := by
    intro G only sql gok onlyA noK
    have dictFree : ∀ {b : Addr} {u : Obj} {es : Array DictEntry} {ep : Nat}, z.heap.get? b = some u → u.data = .dict es ep → G b = none := fun {b u es ep} e1 e2 => by
      cases q : G b with
      | none => rfl
      | some v =>
        obtain rfl : b = a := onlyA b (by rw [q]; simp)
        rw [there] at e1; cases e1
        have e3 : Data.seq vs.toArray _ = Data.dict es ep := e2
        cases e3
    have nsHid : ∀ {b : Addr} {m : Str → Option Value}, z.heap.Ns b m → (hidT z.heap G).Ns b m := fun {b m} ⟨u, es, ep, e1, e2, e3⟩ => ⟨u, es, ep, hidT_get e1 (dictFree e1 e2), e2, e3⟩
    have kinHid : K.In (hidT z.heap G) := fun b u e1 => hidT_get (kin b u e1) (by
      cases q : G b with
      | none => rfl
      | some v =>
        obtain rfl : b = a := onlyA b (by rw [q]; simp)
        rw [noK (by rw [q]; simp)] at e1; cases e1)
    have modul : Mod K mg (hidT z.heap G) := ⟨kinHid, nsHid gl, ⟨mb, nsHid bl, bb⟩, let ⟨mc, l1, l2⟩ := lim; ⟨mc, nsHid l1, l2⟩⟩
    have env0 : Env0 P w K mg (hidT z.heap G) callerA [] z G := ⟨rfl, modul, fun b u e1 => of_hidT e1, Nat.le_of_eq (hidT_size _ _), trivial, fun b hb => absurd (show b ∈ ([] : List Addr) from hb) (by simp), gok, .of_eq gens⟩
    refine codeAny_mono ((F _ kinHid (nsHid gl)).runs callerA [] z G ⟨[.ref a], []⟩ [.ref a] [.ref a] _ _ rfl room env0 (bind z (.ref a)) (.cons rfl .nil) (asked G only sql)) fun r s' hh => ?_
    cases r with
    | error e => exact False.elim hh
    | ok fl =>
      cases fl with
      | next => exact False.elim hh
      | brk => exact False.elim hh
      | cont => exact False.elim hh
      | ret u =>
        obtain ⟨v, G', os1, bare1, un1, gok', rv, qv⟩ := hh
        obtain rfl : v = .bl true := qv
        obtain rfl : u = Value.bool true := rv
        refine ⟨rfl, OldK.of_keep fun b u e1 => ?_, os1, bare1⟩
        cases q : G b with
        | none => exact un1.keep b u e1 q (by intro y; exact absurd (show b ∈ ([] : List Addr) from y) (by simp)) (by simp)
        | some v =>
          rcases only b with y | ⟨ob, xs, y⟩
          · rw [q] at y; cases y
          · obtain ⟨g1, _⟩ := gok b _ y
            obtain ⟨g2, _⟩ := gok' b _ (un1.frzs b ob _ y)
            rw [e1] at g1; cases g1
            exact g2
  cases hk : K.lookup a with
  | some u =>
    have e1 := kin a u hk
    rw [there] at e1
    cases e1
    exact core (fun _ => none) (fun _ => .inl rfl) (.inr ⟨_, vs.toArray, _, hk, rfl, rfl, rfl, by rw [List.size_toArray, len]; exact few, by simpa using rel⟩) (fun b v y => nomatch (show (none : Option HO) = some v from y)) (fun b y => absurd rfl y) fun y => absurd rfl y
  | none =>
    refine core (fun b => if b = a then some (.frz { cls := .type "list", data := .seq vs.toArray } (.lst (ns.map V.int))) else none) (fun b => ?_) (.inl (.inr ⟨{ cls := .type "list", data := .seq vs.toArray }, if_pos rfl⟩)) (fun b v y => ?_) (fun b y => ?_) fun _ => hk
    · by_cases hb : b = a
      · exact .inr ⟨_, _, if_pos hb⟩
      · exact .inl (if_neg hb)
    · by_cases hb : b = a
      · have y' := (if_pos hb).symm.trans y
        cases y'
        subst hb
        exact ⟨there, by rw [List.length_map]; exact few, vs, _, rel, there⟩
      · have y' := (if_neg hb).symm.trans y
        cases y'
    · by_cases hb : b = a
      · exact hb
      · exact absurd (if_neg hb) y
end
theorem walk_ofG {l : PySem.W.OpenLaw} {n k : Nat} {q : Program} {loose : List Str} {XP : (Str → Option Value) → Heap → Prop} {YP : World → Heap → Prop} {d : DefRec} {K : Params → PySem.W.Frag} {sp : PySem.W.Frag → Sp} {x : Str}
    (most : l.most = some n) (few : n ≤ sizeLine) (nodef : d.params.defaults = []) (room : Room k callerA) (hY : ∀ (w : World) (h : Heap), YP w h → (K w.params).In h)
    (F : ∀ (w : World) (mg : Str → Option Value) (fa : Addr) (h : Heap), (K w.params).In h → h.Ns mainGlobals mg → mg d.name = some (.ref fa) →
      ∃ fd : FuncData, (∀ (s : Shared) (u : Value), BindsTo s fd ⟨[u], []⟩ [(x, u)]) ∧ ∀ base : Heap, (K w.params).In base → base.Ns mainGlobals mg → FnG l.prog w (K w.params) mg base k fa fd [x] (sp (K w.params)))
    (asked : ∀ (K : PySem.W.Frag) (H : Hp) (a : Addr) (ns : List Int), ns.length ≤ n → Only H → SqL K H a (ns.map V.int) → sp K [.ref a] H (fun v _ => v = .bl true) fun _ _ _ => False) :
    PySem.W.WalkO q loose XP YP l.row.toRowW d [] (fun f vs => PySem.call f vs) := by
  refine Att.attach_call most nodef fun w s₀ s₁ mg mb fa o pm cd doc a vs ns G Y ho hd hcd hmg hobj hints hlen hg => ?_
  obtain ⟨fd, b1, b2⟩ := F w mg fa _ (hY w _ Y) G.T.g hmg
  exact law_callG (hY w _ Y) G.T.g G.T.b G.T.builtins G.T.nolimit hg hobj hints (Nat.le_trans hlen few) room b2 b1 fun H hO hS => asked (K w.params) H a ns hlen hO hS

/-! ## methods and new objects whose refusal is wished for at the caller's slots -/
section
variable {X : Cx} {CX : CXT} {k : Nat} {f C : Addr} {fd : FuncData} {ps : List Str} {sp : Sp} {E : L2.St → XK} {x m : Str} {p pos apos : Pos} {e o : Expr} {es : List Expr} {ta : TE} {t : TA}
def jMethS (C : Addr) (m : Str) (sp : Sp) (E : L2.St → XK) (ta : TE) (t : TA) : TE := fun σ H Q => ta σ H fun x H1 => ∃ a dx fs, x = .ref a ∧ H1 a = some (.ins C dx fs) ∧ fs.lookup m = none ∧ t σ H1 fun vs H2 => sp (x :: vs) H2 Q (E σ)
theorem pe_methJ {pl : Sem Bool} (ho : PE X o ta) (cls : Cls X.K C) (met : Meth X.K C m f) (F : FnOk X.prog X.w X.K X.mg X.base CX k f fd ps sp) (room : Room k X.A) (bnd : L2.Binds X.K fd ps []) (hx : ∀ σ, PassesAt CX X σ (E σ)) (ha : PA X (e :: es) t)
    (h1 : starEach (e :: es) X.env = (false, eval e X.env) :: starEach es X.env := by rfl) (h2 : (backTo pos (starEach es X.env)).any (·.1) = false := by rfl)
    (h3 : eval (.Call (.Attribute o m apos) (e :: es) [] pos) X.env = (do
      let ov ← eval o X.env
      standAt apos.atName
      let (f, first) ← holding [ov] (getMethod ov m pl)
      callWith pos f first (backTo pos (starEach (e :: es) X.env)) (backToKw pos (keywordEach [] X.env))) := by rfl) :
    PE X (.Call (.Attribute o m apos) (e :: es) [] pos) (jMethS C m sp E ta t) := by
  refine ⟨fun pins s σ H Q I q => PySem.W.methodCall_KW (pl := pl) (thn (ho.run pins s σ H _ I q) fun u s1 ⟨y, H1, I1, ry, a, dx, fs, ey, at1, nof, q1⟩ => ?_) h3⟩
  subst ey
  obtain rfl : u = Value.ref a := ry
  refine getmeth_ok I1 at1 cls met nof (PySem.W.callWith_K (first := [.ref a]) (h₀ := X.base) I.ok.mod.kin met.kp (thn (ha.run pos pins s1 σ H1 _ I1 q1) fun us s2 ⟨vs, H2, I2, rv, q2⟩ => ⟨I2.kIn, ?_⟩) h1 h2)
  exact run_fnS (us := .ref a :: us) (vs := .ref a :: vs) F room bnd (hx σ) I2 (.cons rfl rv) q2
def jMakeS (C : Addr) (sp : Sp) (E : L2.St → XK) (t : TA) : TE := fun σ H Q => t σ H fun vs H1 => ∀ x dx, H1 x = none → H1 dx = none → dx ≠ x →
  sp (.ref x :: vs) (upd (upd H1 dx (.own x)) x (.ins C dx [])) (fun v H2 => v = .non ∧ Q (.ref x) H2) (E σ)
theorem pe_makeJ (M : Mk X.K C f) (F : FnOk X.prog X.w X.K X.mg X.base CX k f fd ps sp) (room : Room (k + 1) X.A) (hg : Gl X x) (hm : X.mg x = some (.ref C)) (bnd : L2.Binds X.K fd ps []) (hx : ∀ σ, PassesAt CX X σ (E σ))
    (ha : PA X (e :: es) t) (hdb : (x == ("__debug__" : Str)) = false := by decide) (h1 : starEach (e :: es) X.env = (false, eval e X.env) :: starEach es X.env := by rfl) (h2 : (backTo pos (starEach es X.env)).any (·.1) = false := by rfl) :
    PE X (.Call (.Name x p) (e :: es) [] pos) (jMakeS C sp E t) := by
  refine ⟨fun pins s σ H Q I q => wpAny_Call_Name_kw (ld_glob I hg hm ?_ hdb)⟩
  refine PySem.W.callWith_K (h₀ := X.base) I.ok.mod.kin M.kp (thn (ha.run pos pins s σ H _ I q) fun us s1 ⟨vs, H1, I1, r, q1⟩ => ⟨I1.kIn, ?_⟩) h1 h2
  show wpAny _ _ (call (.ref C) us) _ _ s1
  have hq := q1 (s1.heap.objs.size + 1) s1.heap.objs.size (I1.hok.fresh (Nat.le_succ _)) (I1.hok.fresh (Nat.le_refl _)) (Nat.ne_of_lt (Nat.lt_succ_self _))
  have J := Inv.made (C := C) I1
  have rr : Vals (V.ref (s1.heap.objs.size + 1) :: vs) (Value.ref (s1.heap.objs.size + 1) :: us) := .cons rfl r
  have hl : (Value.ref (s1.heap.objs.size + 1) :: us ++ []).length = ps.length := by
    rw [List.append_nil, ← rr.length]
    exact F.len _ _ _ _ hq
  have bt := bnd _ (Value.ref (s1.heap.objs.size + 1) :: us) J.kIn hl
  rw [List.append_nil] at bt
  refine wpAny_call (make_map (f := f) I1.kIn M.makes M.init (beq_iff_eq.mp M.fn) (codeAny_mono (F.run _ X.stack _ _ ⟨Value.ref (s1.heap.objs.size + 1) :: us, []⟩ (Value.ref (s1.heap.objs.size + 1) :: us) _ _ (E σ) (room.make C us []) (J.env0.make C us []) bt rr hq) fun r s' hq' => ?_))
  cases r with
  | error e => exact hx σ pins _ _ e s' J hq'
  | ok fl =>
    cases fl with
    | ret u =>
      obtain ⟨v, H', I3, rv, ev, q3⟩ := J.after hq'
      subst ev
      exact ⟨rv, ⟨V.ref (s1.heap.objs.size + 1), H', I3, rfl, q3⟩⟩
    | next => exact False.elim hq'
    | brk => exact False.elim hq'
    | cont => exact False.elim hq'
end
end Jk

namespace Jk
open PySem PySem.Spec PyProof.Rows L2

/-! ## sorted(d), d a dict whose keys are pairs of ints -/
section
variable {prog : Program} {w : World}
/-- the keys of a dict as it lies -/
theorem rawSrc {d : Addr} {o : Obj} {es : Array DictEntry} {ep : Nat} (lo : (d == sysModules) = false) (hx : o.ExactDict) (hd : o.data = .dict es ep) :
    PySem.W.KdlSrc prog w "dict" d d es.size (fun i v => ∃ en, es[i]? = some en ∧ v = en.key) (fun h => h.get? d = some o) where
  type := fun _ e => ⟨o, e, hx.1⟩
  there := fun _ e => ⟨Heap.lt_size e, Heap.lt_size e⟩
  keep := fun _ _ e k => k d (.inl rfl) o e
  notList := by decide
  notTuple := by decide
  hint := fun _ _ _ _ e q => PySem.W.kdl_hint_dict ⟨o, e, hx.1⟩ q
  iter := fun A s hh e => ⟨{ cls := .type "dict_keyiterator", data := .fields #[.ref d, .int 0 0, .int es.size 0, .int ep 0] }, fun i h => h.IsKeyIter s.heap.objs.size d i es.size ep ∧ h.get? d = some o,
    (fun _ _ hq => iter_keys lo e hx hd hq),
    { sub := fun b hb => by simp at hb; simp [hb]
      frame := fun _ _ _ st k => ⟨st.1.at fun o' e' => k _ (by simp) o' e', k d (by simp) o st.2⟩
      item := fun i s' Q E hi st hQ => by
        have hen : es[i]? = some es[i] := Array.getElem?_eq_getElem hi
        refine next_key_item st.1 st.2 hd rfl hen fun h' hit' hs' => ?_
        have ne : d ≠ s.heap.objs.size := Nat.ne_of_lt (Heap.lt_size e)
        exact hQ _ h' s'.toks ⟨_, hen, rfl⟩ ⟨hit', (hs'.2 d ne).trans st.2⟩ fun b o' hb e' => (hs'.2 b (fun z => hb (by simp [z]))).trans e'
      done := fun s' Q E st hQ => next_key_end hh st.1 st.2 hd rfl (Nat.le_refl _) fun h' he' => hQ h' s'.toks fun b o' hb e' => he' b o' (fun z => hb (by simp [z])) e'
      self := fun i s' Q E st hQ => wpAny_pyIter_keyiter st.1 hQ },
    ⟨⟨_, Heap.get?_push_size _ rfl, rfl, rfl⟩, Heap.get?_push_of_some _ e⟩⟩
end
/-- the pair that a value stands for -/
def pairAt (H : Hp) : Value → Int × Int
  | .ref q => match H q with
    | some (.tup [.int i, .int j]) => (i, j)
    | _ => (0, 0)
  | _ => (0, 0)
def keyP (p : Int × Int) : List Key := [Sum.inl p.1, Sum.inl p.2]
theorem keyP_inj {p q : Int × Int} (h : keyP p = keyP q) : p = q := by
  obtain ⟨a, b⟩ := p
  obtain ⟨c, d⟩ := q
  simp [keyP] at h
  simp [h.1, h.2]
theorem keyP_at {H : Hp} {q : Addr} {p : Int × Int} (h : H q = some (.tup ((keyP p).map kV))) : pairAt H (.ref q) = p := by
  have h' : H q = some (.tup [.int p.1, .int p.2]) := h
  simp [pairAt, h']
def lexLe (p q : Int × Int) : Prop := p.1 < q.1 ∨ (p.1 = q.1 ∧ p.2 ≤ q.2)
theorem paired_ix {α β : Type} {F : α → β → Prop} : ∀ {l : List α} {m : List β}, Paired F l m → ∀ (j : Nat) (y : β), m[j]? = some y → ∃ x, l[j]? = some x ∧ F x y
  | _, _, .nil, j, y, h => by simp at h
  | _, _, .cons f t, 0, y, h => by simp at h; subst h; exact ⟨_, rfl, f⟩
  | _, _, .cons f t, j + 1, y, h => by
    obtain ⟨x, h1, h2⟩ := paired_ix t j y (by simpa using h)
    exact ⟨x, by simpa using h1, h2⟩
def rSortDT : List V → Hp → VK → Prop := fun xs H Q => ∃ (a : Addr) (kvs : List (List Key × V)) (ps : List (Int × Int)), xs = [.ref a] ∧ H a = some (.dT kvs) ∧ kvs.map (·.1) = ps.map keyP ∧
  ∀ (qs : List (Addr × (Int × Int))) (D : Addr), (qs.map (·.2)).Perm ps → (qs.map (·.2)).Pairwise lexLe → (∀ q ∈ qs, H q.1 = some (.tup [.int q.2.1, .int q.2.2])) → H D = none → Q (.ref D) (upd H D (.lst (qs.map fun q => .ref q.1)))
theorem srtd_pairs {k : Value → Int × Int} {out : List Value} (h : SrtO.Srtd (fun v u => SrtO.lexB (k v) (k u)) out) : (out.map k).Pairwise lexLe := by
  rw [List.pairwise_map]
  refine List.Pairwise.imp ?_ h
  intro a b hab
  have z := SrtO.lexB_no.mp hab
  unfold lexLe
  omega
theorem call_sortedDT {X : Cx} (hc : X.calm = true) : CallR X (.builtin "sorted") rSortDT := by
  intro pins s σ H xs us Q I r h
  obtain ⟨a, kvs, ps, rfl, ha, hks, q⟩ := h
  obtain ⟨u, rfl, ru⟩ := vals1 r
  cases ru
  obtain ⟨hz, lo, ks, rel, o, es, ep, ho, hx, hd, hes, his, hnd⟩ := dt_of I.hok ha
  have hsz : es.size = kvs.length := by
    have z := congrArg List.length hes
    rw [List.length_map, Array.length_toList] at z
    rw [z, Paired.length rel]
  refine Calls.call_function_entry PyProof.Rows.kind_sorted PyProof.Rows.plain_sorted PyProof.Rows.entry_sorted (PyProof.Rows.args_sorted1 _) ?_
  unfold Builtin.«sorted»
  refine wpAny_bind (m := checkCount "sorted" 1 1 _) (wpAny_pure ?_)
  refine wpAny_bind (PySem.W.kdu_collect (A := X.A.in1) (rawSrc lo hx hd) (I.ok.hd hc) ho (by rw [hsz]; exact hz) fun h' tk acc hk hacc => ?_)
  have hkey : ∀ (j : Nat) (v : Value), acc.toList[j]? = some v → ∃ (p : Int × Int) (t : Addr), ps[j]? = some p ∧ v = .ref t ∧ H t = some (.tup ((keyP p).map kV)) := fun j v e => by
    obtain ⟨en, e1, rfl⟩ := hacc.2 j v (by rw [← Array.getElem?_toList]; exact e)
    have e2 : (ks.map (entryOfKey (tupleKind (mixKind X.prog X.w))))[j]? = some en := by rw [← hes, Array.getElem?_toList]; exact e1
    rw [List.getElem?_map] at e2
    cases e3 : ks[j]? with
    | none => rw [e3] at e2; cases e2
    | some y =>
      rw [e3] at e2
      obtain rfl : entryOfKey (tupleKind (mixKind X.prog X.w)) y = en := Option.some.inj e2
      obtain ⟨x, g1, g2, g3, _⟩ := paired_ix rel j y e3
      have g4 : (kvs.map (·.1))[j]? = some x.1 := by rw [List.getElem?_map, g1]; rfl
      rw [hks, List.getElem?_map] at g4
      cases g5 : ps[j]? with
      | none => rw [g5] at g4; cases g4
      | some p =>
        rw [g5] at g4
        have g6 : keyP p = x.1 := Option.some.inj g4
        exact ⟨p, y.2.1, rfl, rfl, by rw [g6]; exact g3⟩
  have hlen : acc.toList.length = ps.length := by
    have z := congrArg List.length hks
    rw [List.length_map, List.length_map] at z
    rw [Array.length_toList, hacc.1, hsz, z]
  have hmap : acc.toList.map (pairAt H) = ps := by
    refine List.ext_getElem? fun j => ?_
    rw [List.getElem?_map]
    cases e : acc.toList[j]? with
    | none =>
      have e' : ps[j]? = none := by
        rw [List.getElem?_eq_none_iff] at e ⊢
        omega
      rw [e']; rfl
    | some v =>
      obtain ⟨p, t, e1, rfl, e2⟩ := hkey j v e
      rw [e1]
      show some (pairAt H (.ref t)) = some p
      rw [keyP_at e2]
  have hmem : ∀ v ∈ acc.toList, ∃ t, v = .ref t ∧ H t = some (.tup [.int (pairAt H v).1, .int (pairAt H v).2]) := fun v hv => by
    obtain ⟨j, hj, e⟩ := List.mem_iff_getElem.mp hv
    obtain ⟨p, t, _, rfl, e2⟩ := hkey j v (by rw [List.getElem?_eq_getElem hj, e])
    refine ⟨t, rfl, ?_⟩
    rw [keyP_at e2]
    exact e2
  have I1 : Inv X pins σ H { s with heap := h', toks := tk } := I.kept hk
  have hfit : acc.toList.length ≤ sizeLine := by rw [Array.length_toList, hacc.1, hsz]; exact hz
  refine wpAny_bind (wpAny_newList ?_ hfit)
  have hoL : (h'.push (seqObj "list" acc.toList.toArray 0)).get? h'.objs.size = some (seqObj "list" acc.toList.toArray 0) := Heap.get?_push_size _ rfl
  show wpAny _ _ _ _ _ { s with heap := h'.push (seqObj "list" acc.toList.toArray 0), toks := tk }
  have hpair : ∀ v ∈ acc.toList, Srt.IsPair (h'.push (seqObj "list" acc.toList.toArray 0)) v (pairAt H v).1 (pairAt H v).2 := fun v hv => by
    obtain ⟨t, ev, ht⟩ := hmem v hv
    obtain ⟨_, its, rv, ob, hob, hcl, n, hdt⟩ := I1.hok t _ ht
    obtain ⟨u1, u2, rfl, ri, rj⟩ := vals2 rv
    obtain ⟨t1, rfl⟩ := ri
    obtain ⟨t2, rfl⟩ := rj
    exact ⟨t, ob, t1, t2, n, ev, Heap.get?_push_of_some _ hob, hcl, hdt⟩
  refine wpAny_bind (wpAny_holding (wpAny_call_entry PyProof.Rows.slot_list_sort ⟨_, hoL, rfl⟩ PyProof.Rows.entry_list_sort
    (SrtO.list_sort_ord (s := { s with heap := h'.push (seqObj "list" acc.toList.toArray 0), toks := tk }) (SrtO.swo_lex (pairAt H)) hoL hfit (fun h2 => SrtO.pairs_sortableO (by omega) hpair fun ob e c => ?_) fun out g1 g2 => ⟨_, rfl, ?_⟩) (PyProof.Rows.args_list_sort _)))
  · have e' := e.symm.trans hoL
    cases e'
    exact absurd (Value.type.inj c) (by decide)
  · obtain ⟨e', he'⟩ := PyProof.Rows.sortedHeap_at (vs := acc.toList) (out := out.toArray) hoL
    have hout : ∀ v ∈ out, ∃ t, v = .ref t ∧ H t = some (.tup [.int (pairAt H v).1, .int (pairAt H v).2]) := fun v hv => hmem v (g2.perm.mem_iff.mp hv)
    have hol : out.length = acc.toList.length := g2.perm.length_eq
    let adr : Value → Addr := fun v => match v with | .ref t => t | _ => 0
    have hvals : Vals (out.map fun v => V.ref (adr v)) out := by
      have gen : ∀ l : List Value, (∀ v ∈ l, ∃ t, v = Value.ref t) → Vals (l.map fun v => V.ref (adr v)) l := by
        intro l
        induction l with
        | nil => intro _; exact .nil
        | cons v l ih =>
          intro hl
          obtain ⟨t, rfl⟩ := hl v List.mem_cons_self
          exact .cons rfl (ih fun u hu => hl u (List.mem_cons_of_mem _ hu))
      exact gen out fun v hv => let ⟨t, e, _⟩ := hout v hv; ⟨t, e⟩
    have fin := q (out.map fun v => (adr v, pairAt H v)) h'.objs.size (by
        rw [List.map_map]
        show (out.map fun v => pairAt H v).Perm ps
        rw [← hmap]
        exact g2.perm.map _) (by
        rw [List.map_map]
        exact srtd_pairs g1) (fun z hz' => by
        obtain ⟨v, hv, rfl⟩ := List.mem_map.mp hz'
        obtain ⟨t, rfl, ht⟩ := hout v hv
        exact ht) (I1.hok.fresh (Nat.le_refl _))
    rw [List.map_map] at fin
    refine wpAny_pure ⟨_, rfl, .ref h'.objs.size, upd H h'.objs.size (.lst (out.map fun v => V.ref (adr v))), I1.laid (t' := tk) (fun b u e => ?_) (Nat.le_refl _)
      (show ObjOk X.prog X.w _ _ _ (.lst (out.map fun v => V.ref (adr v))) from ⟨by rw [List.length_map, hol]; exact hfit, out, e', hvals, he'⟩), rfl, fin⟩
    have hb : b < h'.objs.size := Heap.lt_size e
    rw [PyProof.Rows.sortedHeap_old (Nat.ne_of_lt hb) (by rw [size_push']; exact Nat.lt_succ_of_lt hb)]
    exact Heap.get?_push_of_some _ e

/-! ## d.pop(k), k a tuple that is there -/
section
variable {prog : Program} {w : World} {K : Type} [DecidableEq K] {knd : HeapKind prog w K}
theorem meetsPop1 {d b : Addr} {k : K} (lo : (d == sysModules) = false) :
    MeetsIn prog w (Builtin.«dict.pop» ⟨[.ref d, .ref b], []⟩) (fun A R s => ∃ xs p, knd.room A.in1 ∧ knd.is s.heap k b ∧ s.heap.DictOfH knd d xs ∧ xs.length ≤ sizeLine ∧ atKey xs k = some p ∧
      ∀ h' tk, h'.DictOfH knd d (DT.dropH xs k) → Heap.SameBut d s.heap h' → R (.ok (.ret p.2)) { s with heap := h', toks := tk }) :=
  .of_wp fun A R s ⟨xs, p, room, key, dict, few, found, fin⟩ => by
    obtain ⟨o, es, ep, ho, hc, hdat, he, his, hn⟩ := id dict
    have hes : es.size = xs.length := size_of_entries he
    have hpart : (keyPart (Value.ref b)).isSome = false := rfl
    unfold Builtin.«dict.pop»
    refine wpAny_bind ?_
    unfold Builtin.Dict.keyAndDefault
    refine wpAny_bind (wpAny_notOrdered_dict dict.typeIs ?_)
    show wpAny _ _ (pure (d, Value.ref b, none)) _ _ s
    refine wpAny_pure ?_
    simp only [hpart, Bool.false_eq_true, if_false]
    refine wpAny_bind (wpAny_dictEntries ho hdat (wpAny_bind (wpAny_pure ?_)))
    cases hem : es.isEmpty with
    | true =>
      have h0 : xs = [] := by
        have z : es.size = 0 := by simpa using hem
        exact List.length_eq_zero_iff.mp (by omega)
      rw [h0] at found
      cases found
    | false =>
      simp only [Bool.false_eq_true, if_false]
      refine wpAny_bind (DT.takeH room key dict few (fun hno => ?_) fun p' e hp hev h' hm' hs' => ?_)
      · rw [found] at hno; cases hno
      · rw [found] at hp
        cases hp
        simp only [Option.isNone_some, Bool.false_eq_true, if_false]
        exact wpAny_bind (wpAny_letGo (wpAny_pure ⟨e.val, rfl, by rw [hev]; exact fin h' _ hm' hs'⟩))
end
def rPopT1 : V → List V → Hp → VK → Prop := fun x xs H Q => ∃ (a : Addr) (kvs : List (List Key × V)) (k : List Key) (b : Addr) (v : V), x = .ref a ∧ xs = [.ref b] ∧ H a = some (.dT kvs) ∧ H b = some (.tup (k.map kV)) ∧ valV kvs k = some v ∧
  Q v (upd H a (.dT (dropK kvs k)))
theorem mt_popT1 {X : Cx} (hu : X.A.units + 1 < cLine) : MtR X "dict.pop" rPopT1 := by
  intro pins s σ H x xs v us Q I rx rxs h
  obtain ⟨a, kvs, k, b, v0, rfl, rfl, ha, hb, hv, q⟩ := h
  cases rx
  obtain ⟨u1, rfl, r1⟩ := vals1 rxs
  cases r1
  obtain ⟨z, lo, ks, rel, dd⟩ := dt_of I.hok ha
  have few : ks.length ≤ sizeLine := by rw [← Paired.length rel]; exact z
  have r := rel.val k
  rw [hv] at r
  obtain ⟨p, hp, rv⟩ : ∃ p, atKey ks k = some p ∧ RelV v0 p.2 := by
    cases ev : atKey ks k with
    | none => rw [ev] at r; exact (show False from r).elim
    | some p => rw [ev] at r; exact ⟨p, rfl, r⟩
  refine call_meetsIn PySem.F.slot_dict_pop dd.typeIs PySem.F.entry_dict_pop (PySem.F.args_dict_pop_2 _ _) (meetsPop1 (knd := tupleKind (mixKind X.prog X.w)) (k := k) lo)
    ⟨ks, p, tupleKind_room_in1 hu, key_of I.hok hb, dd, few, hp, fun h' tk dd' hs => ?_⟩
  obtain ⟨o, es, ep, hq, h2, h3, h4, _, h5⟩ := dd'
  have I2 : Inv X pins σ (upd H a (.dT (dropK kvs k))) { s with heap := h', toks := tk } :=
    d_write I (by rw [ha]; exact True.intro) hs ⟨o, hq⟩ ⟨Nat.le_trans (dropK_le kvs k) z, lo, _, (DX.KT_drop k rel).keeps (fun c ys ec => (by rw [upd_ne (ne_of ec ha (fun z => nomatch z))]; exact ec)), o, es, ep, hq, h2, h3, h4, h5⟩
  show EP X pins σ Q p.2 _
  exact ⟨v0, _, I2, rv, q⟩
end Jk

namespace Jk
open PySem PySem.Spec L2 Evl

/-! ## readings that simp can run -/
/-- no attribute of that name -/
def NoFld (fs : List (Str × V)) (m : Str) : Prop := fs.lookup m = none
section
variable {σ : L2.St} {H : Hp} {D : Ends} {Q : VK} {QB : Bool → Hp → Prop} {QA : List V → Hp → Prop} {QS : L2.St → Hp → Prop} {t u ts : TS} {ta tb te tv tc : TE} {c c1 c2 : TT} {tr : TA} {g : TG} {gs : TGs} {v x y : V} {r : R2} {K : PySem.W.Frag}
@[simp] theorem j_seq : tSeq t u D σ H = t { D with nx := u D } σ H := rfl
@[simp] theorem j_next : tNext D σ H = D.nx σ H := rfl
@[simp] theorem j_asg : tAsg te g D σ H = te σ H fun x H1 => g x σ H1 D.nx := rfl
@[simp] theorem j_gname {i : Nat} : gName i v σ H QS = QS (σ.set i (some v)) H := rfl
@[simp] theorem j_gnil : gNil [] σ H QS = QS σ H := by simp [gNil]
@[simp] theorem j_gcons {vs : List V} : gCons g gs (v :: vs) σ H QS = g v σ H fun s1 H1 => gs vs s1 H1 QS := propext ⟨fun ⟨_, _, e, q⟩ => by cases e; exact q, fun q => ⟨v, vs, rfl, q⟩⟩
@[simp] theorem j_drop : tDrop te D σ H = te σ H fun _ H1 => D.nx σ H1 := rfl
@[simp] theorem j_ret : tRet te D σ H = te σ H D.rt := rfl
@[simp] theorem j_retN : tRetN D σ H = D.rt .non H := rfl
@[simp] theorem j_if : tIfS c t u D σ H = c σ H fun b H1 => if b = true then t D σ H1 else u D σ H1 := rfl
@[simp] theorem j_brk : tBreak D σ H = D.bk σ H := rfl
@[simp] theorem j_cont : tCont D σ H = D.ct σ H := rfl
@[simp] theorem j_var {i : Nat} : tVar i σ H Q = ∃ v, σ[i]? = some (some v) ∧ Q v H := rfl
@[simp] theorem j_c : tC v σ H Q = Q v H := rfl
@[simp] theorem j_B : tB te σ H QB = te σ H fun x H1 => ∃ c, x = .bl c ∧ QB c H1 := rfl
@[simp] theorem j_test : tTest te σ H QB = te σ H fun x H1 => ∃ c, x = .bl c ∧ QB c H1 := rfl
@[simp] theorem j_and : tAnd c1 c2 σ H QB = c1 σ H fun b H1 => if b = true then c2 σ H1 QB else QB false H1 := rfl
@[simp] theorem j_or : tOr c1 c2 σ H QB = c1 σ H fun b H1 => if b = true then QB true H1 else c2 σ H1 QB := rfl
@[simp] theorem j_not : tNot c σ H QB = c σ H fun b H1 => QB (!b) H1 := rfl
@[simp] theorem j_andV : tAndV ta tb σ H Q = ta σ H fun x H1 => ∃ c, x = .bl c ∧ if c = true then tb σ H1 Q else Q (.bl false) H1 := rfl
@[simp] theorem j_orV : tOrV ta tb σ H Q = ta σ H fun x H1 => ∃ c, x = .bl c ∧ if c = true then Q (.bl true) H1 else tb σ H1 Q := rfl
@[simp] theorem j_notV : tNotV ta σ H Q = ta σ H fun x H1 => ∃ c, x = .bl c ∧ Q (.bl (!c)) H1 := rfl
@[simp] theorem j_ifE : tIf c ta tb σ H Q = c σ H fun b H1 => if b = true then ta σ H1 Q else tb σ H1 Q := rfl
@[simp] theorem j_op : tOp r ta tb σ H Q = ta σ H fun x H1 => tb σ H1 fun y H2 => r x y H2 Q := rfl
@[simp] theorem j_un {r1 : V → Hp → VK → Prop} : tUn r1 ta σ H Q = ta σ H fun x H1 => r1 x H1 Q := rfl
@[simp] theorem j_rI {C : Int → Int → Prop} {f : Int → Int → V} {i j : Int} : rI C f (.int i) (.int j) H Q = (C i j ∧ Q (f i j) H) := by simp [rI]
@[simp] theorem j_rI0 {f : Int → Int → V} {i j : Int} : rI0 f (.int i) (.int j) H Q = Q (f i j) H := by simp [rI0]
@[simp] theorem j_rU {f : Int → V} {i : Int} : rU f (.int i) H Q = Q (f i) H := by simp [rU]
@[simp] theorem j_eq_ii {i j : Int} : rEq (.int i) (.int j) H Q = Q (.bl (decide (i = j))) H := by simp [rEq, scal]
@[simp] theorem j_ne_ii {i j : Int} : rNe (.int i) (.int j) H Q = Q (.bl (!decide (i = j))) H := by simp [rNe, scal]
@[simp] theorem j_eq_ss {i j : Str} : rEq (.str i) (.str j) H Q = Q (.bl (decide (i = j))) H := by simp [rEq, scal]
@[simp] theorem j_ne_ss {i j : Str} : rNe (.str i) (.str j) H Q = Q (.bl (!decide (i = j))) H := by simp [rNe, scal]
@[simp] theorem j_eq_bb {i j : Bool} : rEq (.bl i) (.bl j) H Q = Q (.bl (decide (i = j))) H := by simp [rEq, scal]
@[simp] theorem j_ne_bb {i j : Bool} : rNe (.bl i) (.bl j) H Q = Q (.bl (!decide (i = j))) H := by simp [rNe, scal]
@[simp] theorem j_chain {r' : R2} : tChain r r' ta tb tc σ H Q = ta σ H fun x H1 => tb σ H1 fun y H2 => r x y H2 fun z H3 => ∃ k, z = .bl k ∧ (if k = true then tc σ H3 fun w' H4 => r' y w' H4 Q else Q (.bl false) H3) := rfl
@[simp] theorem j_fld {f : Str} : tFld K ta f σ H Q = ta σ H fun x H1 => ∃ a C dx fs v, x = .ref a ∧ H1 a = some (.ins C dx fs) ∧ Cls K C ∧ NoAttr K C f ∧ fs.lookup f = some v ∧ Q v H1 := rfl
@[simp] theorem j_sfld {f : Str} : sFld K ta tv f D σ H = tv σ H fun y H1 => ta σ H1 fun x H2 => ∃ a C dx fs, x = .ref a ∧ H2 a = some (.ins C dx fs) ∧ Cls K C ∧ NoAttr K C f ∧ fs.length < 1000 ∧ D.nx σ (upd H2 a (.ins C dx (putF f y fs))) := rfl
@[simp] theorem j_nil : tNil σ H QA = QA [] H := rfl
@[simp] theorem j_cons : tCons ta tr σ H QA = ta σ H fun x H1 => tr σ H1 fun xs H2 => QA (x :: xs) H2 := rfl
@[simp] theorem j_cb {r1 : List V → Hp → VK → Prop} : tCB r1 tr σ H Q = tr σ H fun vs H1 => r1 vs H1 Q := rfl
@[simp] theorem j_call {sp : Sp} {E : XK} : tCall sp [] E tr σ H Q = tr σ H fun vs H1 => sp vs H1 Q E := by simp [tCall]
@[simp] theorem j_meth {sp : Sp} {E : XK} {C : Addr} {m : Str} : tMeth C m sp [] E ta tr σ H Q = ta σ H fun x H1 => ∃ a dx fs, x = .ref a ∧ H1 a = some (.ins C dx fs) ∧ NoFld fs m ∧ tr σ H1 fun vs H2 => sp (x :: vs) H2 Q E := by simp [tMeth, NoFld]
@[simp] theorem j_methS {sp : Sp} {E : L2.St → XK} {C : Addr} {m : Str} : jMethS C m sp E ta tr σ H Q = ta σ H fun x H1 => ∃ a dx fs, x = .ref a ∧ H1 a = some (.ins C dx fs) ∧ NoFld fs m ∧ tr σ H1 fun vs H2 => sp (x :: vs) H2 Q (E σ) := rfl
@[simp] theorem j_makeS {sp : Sp} {E : L2.St → XK} {C : Addr} : jMakeS C sp E tr σ H Q = tr σ H fun vs H1 => ∀ x dx, H1 x = none → H1 dx = none → dx ≠ x → sp (.ref x :: vs) (upd (upd H1 dx (.own x)) x (.ins C dx [])) (fun v H2 => v = .non ∧ Q (.ref x) H2) (E σ) := rfl
@[simp] theorem j_make {sp : Sp} {E : XK} {C : Addr} : tMake C sp [] E tr σ H Q = tr σ H fun vs H1 => ∀ x dx, H1 x = none → H1 dx = none → dx ≠ x → sp (.ref x :: vs) (upd (upd H1 dx (.own x)) x (.ins C dx [])) (fun v H2 => v = .non ∧ Q (.ref x) H2) E := by simp [tMake]
@[simp] theorem j_isN {y : V} : (fun (x y : V) (H : Hp) (Q : VK) => y = V.non ∧ Q (.bl (decide (x = .non))) H) x y H Q = (y = V.non ∧ Q (.bl (decide (x = .non))) H) := rfl
@[simp] theorem kV_int {n : Int} {k : Key} : (V.int n = kV k) = (k = Sum.inl n) := by
  cases k with
  | inl i => simp [kV, eq_comm]
  | inr s => simp [kV]
@[simp] theorem kV_str {n : Str} {k : Key} : (V.str n = kV k) = (k = Sum.inr n) := by
  cases k with
  | inl i => simp [kV]
  | inr s => simp [kV, eq_comm]
end

section
variable {X : Cx}
/-- a reading that asks more -/
theorem _root_.L2.PE.by {e : Expr} {t t' : TE} (h : PE X e t) (k : ∀ σ H Q, t' σ H Q → t σ H Q) : PE X e t' := ⟨fun pins s σ H Q I q => h.run pins s σ H Q I (k σ H Q q)⟩
theorem _root_.L2.PG.by {e : Expr} {t t' : TG} (h : PG X e t) (k : ∀ v σ H Q, t' v σ H Q → t v σ H Q) : PG X e t' := ⟨fun pins s σ H v u Q I r q => h.run pins s σ H v u Q I r (k v σ H Q q)⟩
theorem _root_.L2.PS.by {e : Stmt} {t t' : TS} (h : PS X e t) (k : ∀ D σ H, t' D σ H → t D σ H) : PS X e t' := ⟨fun pins s σ H D I q => h.run pins s σ H D I (k D σ H q)⟩
theorem callBy {f : Value} {r r' : List V → Hp → VK → Prop} (h : CallR X f r) (k : ∀ xs H Q, r' xs H Q → r xs H Q) : CallR X f r' := fun pins s σ H xs us Q I rr q => h pins s σ H xs us Q I rr (k xs H Q q)

/-- an attribute, the written part named -/
theorem pe_fldK {K0 : PySem.W.Frag} {e : Expr} {ta : TE} {f : Str} {pos : Pos} (he : PE X e ta) (hb : attributeBase e f X.env (eval e X.env) = eval e X.env := by rfl) (hK : X.K = K0 := by rfl) : PE X (.Attribute e f pos) (tFld K0 ta f) := by
  subst hK
  exact pe_fld he hb
/-! new tuples and lists, what was tracked kept -/
def jTup (tr : TA) : TE := fun σ H Q => tr σ H fun xs H1 => xs.length ≤ 1000 ∧ ∀ p H2, H1 p = none → Ex H1 H2 → H2 p = some (.tup xs) → Q (.ref p) H2
def jLst (tr : TA) : TE := fun σ H Q => tr σ H fun xs H1 => xs.length ≤ 1000 ∧ ∀ p H2, H1 p = none → Ex H1 H2 → H2 p = some (.lst xs) → Q (.ref p) H2
@[simp] theorem j_tup {σ H Q} {tr : TA} : jTup tr σ H Q = tr σ H fun xs H1 => xs.length ≤ 1000 ∧ ∀ p H2, H1 p = none → Ex H1 H2 → H2 p = some (.tup xs) → Q (.ref p) H2 := rfl
@[simp] theorem j_lst {σ H Q} {tr : TA} : jLst tr σ H Q = tr σ H fun xs H1 => xs.length ≤ 1000 ∧ ∀ p H2, H1 p = none → Ex H1 H2 → H2 p = some (.lst xs) → Q (.ref p) H2 := rfl
theorem line1000 {n : Nat} (h : n ≤ 1000) : n ≤ sizeLine := Nat.le_trans h (by decide)
theorem pe_tupJ {es : List Expr} {t : TA} {x1} {pos : Pos} (h : PA X es t) : PE X (.Tuple es x1 pos) (jTup t) := by
  refine ⟨fun pins s σ H Q I hq => ?_⟩
  refine (pe_tup (x1 := x1) (pos := pos) (t := fun σ H Q => ∃ Q', t σ H Q' ∧ ∀ vs H', Q' vs H' → Q vs H') ⟨fun pos pins s σ H Q I q => ?_⟩).run pins s σ H Q I ⟨_, hq, fun xs H1 ⟨z, k⟩ => ⟨line1000 z, fun p hp => k p _ hp (Ex.new hp) upd_same⟩⟩
  obtain ⟨Q', q1, q2⟩ := q
  exact thn (h.run pos pins s σ H Q' I q1) fun us s1 ⟨xs, H1, I1, r, k⟩ => ⟨xs, H1, I1, r, q2 _ _ k⟩
theorem pe_lstJ {es : List Expr} {t : TA} {pos : Pos} (h : PA X es t) : PE X (.List es pos) (jLst t) := by
  refine ⟨fun pins s σ H Q I hq => ?_⟩
  refine (pe_lst (pos := pos) (t := fun σ H Q => ∃ Q', t σ H Q' ∧ ∀ vs H', Q' vs H' → Q vs H') ⟨fun pos pins s σ H Q I q => ?_⟩).run pins s σ H Q I ⟨_, hq, fun xs H1 ⟨z, k⟩ => ⟨line1000 z, fun p hp => k p _ hp (Ex.new hp) upd_same⟩⟩
  obtain ⟨Q', q1, q2⟩ := q
  exact thn (h.run pos pins s σ H Q' I q1) fun us s1 ⟨xs, H1, I1, r, k⟩ => ⟨xs, H1, I1, r, q2 _ _ k⟩
def jDict : TE := fun _ H Q => ∀ p H2, H p = none → Ex H H2 → H2 p = some (.dK []) → Q (.ref p) H2
@[simp] theorem j_dict {σ H Q} : jDict σ H Q = ∀ p H2, H p = none → Ex H H2 → H2 p = some (.dK []) → Q (.ref p) H2 := rfl
theorem pe_dictJ {pos : Pos} : PE X (.Dict [] [] pos) jDict := pe_dnewK.by fun σ H Q q p hp => q p _ hp (Ex.new hp) upd_same

/-! operators -/
theorem opBy {f : Value → Value → Sem Value} {r r' : R2} (h : OpR X f r) (k : ∀ x y H Q, r' x y H Q → r x y H Q) : OpR X f r' := fun pins s σ H x y v u Q I r1 r2 q => h pins s σ H x y v u Q I r1 r2 (k x y H Q q)
def jCat : R2 := fun x y H Q => ∃ l b xs zs, x = .ref l ∧ y = .ref b ∧ H l = some (.lst xs) ∧ H b = some (.lst zs) ∧ xs.length + zs.length ≤ 100000 ∧ ∀ p H2, H p = none → Ex H H2 → H2 p = some (.lst (xs ++ zs)) → Q (.ref p) H2
theorem op_catJ : OpR X (binaryOp .Add) jCat := opBy op_cat fun x y H Q ⟨l, b, xs, zs, e1, e2, h1, h2, z, k⟩ => ⟨l, b, xs, zs, e1, e2, h1, h2, Nat.le_trans z (by decide), fun p hp => k p _ hp (Ex.new hp) upd_same⟩
def jRep : R2 := fun x y H Q => ∃ l k xs, x = .ref l ∧ y = .int k ∧ H l = some (.lst xs) ∧ 0 ≤ k ∧ k ≤ 1000 ∧ xs.length ≤ 1000 ∧ ∀ p H2, H p = none → Ex H H2 → H2 p = some (.lst (List.replicate k.toNat xs).flatten) → Q (.ref p) H2
theorem op_repJ : OpR X (binaryOp .Mult) jRep := opBy op_rep fun x y H Q ⟨l, k, xs, e1, e2, h1, h2, h3, h4, q⟩ => ⟨l, k, xs, e1, e2, h1, by omega, by omega, by
    have z : xs.length * k.toNat ≤ 1000 * 1000 := Nat.mul_le_mul h4 (by omega)
    exact Nat.le_trans z (by decide), fun p hp => q p _ hp (Ex.new hp) upd_same⟩
def jIxL : R2 := fun x y H Q => ∃ p xs i v, x = .ref p ∧ y = .int i ∧ H p = some (.lst xs) ∧ 0 ≤ i ∧ xs[i.toNat]? = some v ∧ Q v H
def jIxT : R2 := fun x y H Q => ∃ p xs i v, x = .ref p ∧ y = .int i ∧ H p = some (.tup xs) ∧ 0 ≤ i ∧ xs[i.toNat]? = some v ∧ Q v H
theorem at_toNat {xs : List V} {i : Int} {v : V} (h : 0 ≤ i) (e : xs[i.toNat]? = some v) : atI xs i = some v := at_of (j := i.toNat) (by omega) e
theorem ix_listJ : IxR X jIxL := fun vl sl pins s σ H x y v u Q I rx ry q hs => ix_list vl sl pins s σ H x y v u Q I rx ry (by
  obtain ⟨p, xs, i, z, e1, e2, h1, h2, h3, k⟩ := q
  exact ⟨p, xs, i, z, e1, e2, .inl (.inl h1), at_toNat h2 h3, k⟩) hs
theorem ix_tupJ : IxR X jIxT := fun vl sl pins s σ H x y v u Q I rx ry q hs => ix_tup vl sl pins s σ H x y v u Q I rx ry (by
  obtain ⟨p, xs, i, z, e1, e2, h1, h2, h3, k⟩ := q
  exact ⟨p, xs, i, z, e1, e2, .inl (.inl h1), at_toNat h2 h3, k⟩) hs

/-! dicts -/
variable {o i value : Expr} {td ty : TE} {pos tpos : Pos}
def jDGet (td ty : TE) : TE := fun σ H Q => td σ H fun x H1 => ty σ H1 fun y H2 => ∃ a kvs k v, x = .ref a ∧ H2 a = some (.dK kvs) ∧ y = kV k ∧ valV kvs k = some v ∧ Q v H2
@[simp] theorem j_dget {σ H Q} : jDGet td ty σ H Q = td σ H fun x H1 => ty σ H1 fun y H2 => ∃ a kvs k v, x = .ref a ∧ H2 a = some (.dK kvs) ∧ y = kV k ∧ valV kvs k = some v ∧ Q v H2 := rfl

/-- a reading that may be weakened behind -/
def cl (t : TE) : TE := fun σ H Q => ∃ Q', t σ H Q' ∧ ∀ v H', Q' v H' → Q v H'
theorem _root_.L2.PE.cl {e : Expr} {t : TE} (h : PE X e t) : PE X e (cl t) := ⟨fun pins s σ H Q I ⟨Q', q1, q2⟩ => thn (h.run pins s σ H Q' I q1) fun u s1 ⟨v, H1, I1, r, k⟩ => ⟨v, H1, I1, r, q2 _ _ k⟩⟩
theorem pe_dgetJ (hu : X.A.units + 1 < cLine) (ho : PE X o td) (hi : PE X i ty) (hs : NoSl i) : PE X (.Subscript o i pos) (jDGet td ty) :=
  (pe_dget hu ho.cl hi.cl hs).by fun σ H Q q => ⟨_, q, fun x H1 k => ⟨_, k, fun y H2 ⟨a, kvs, k, v, e1, h1, e2, e3, q⟩ => ⟨a, v, e1, by rw [e2, ← e3]; exact DGet.k h1, q⟩⟩⟩
def jDIn (ty td : TE) : TE := fun σ H Q => ty σ H fun y H1 => td σ H1 fun x H2 => ∃ a kvs k, x = .ref a ∧ H2 a = some (.dK kvs) ∧ y = kV k ∧ Q (.bl (valV kvs k).isSome) H2
@[simp] theorem j_din {σ : L2.St} {H : Hp} {Q : VK} : jDIn ty td σ H Q = ty σ H fun y H1 => td σ H1 fun x H2 => ∃ a kvs k, x = .ref a ∧ H2 a = some (.dK kvs) ∧ y = kV k ∧ Q (.bl (valV kvs k).isSome) H2 := rfl
theorem pc_dinJ (hu : X.A.units + 1 < cLine) (hi : PE X i ty) (ho : PE X o td) : PC X .In i o (jDIn ty td) := by
  refine ⟨fun pins s σ H Q I q => (pc_din hu hi.cl ho.cl).run pins s σ H Q I ⟨_, q, fun y H1 k => ⟨_, k, fun x H2 ⟨a, kvs, k, e1, h1, e2, q⟩ => ⟨a, _, e1, by rw [e2]; exact DGet.k h1, q⟩⟩⟩⟩
/-- a pair of ints in a dict of such -/
def jDInT (ty td : TE) : TE := fun σ H Q => ty σ H fun y H1 => td σ H1 fun x H2 => ∃ a kvs b m n, x = .ref a ∧ H2 a = some (.dT kvs) ∧ y = .ref b ∧ H2 b = some (.tup [.int m, .int n]) ∧ Q (.bl (valV kvs (keyP (m, n))).isSome) H2
@[simp] theorem j_dinT {σ : L2.St} {H : Hp} {Q : VK} : jDInT ty td σ H Q = ty σ H fun y H1 => td σ H1 fun x H2 => ∃ a kvs b m n, x = .ref a ∧ H2 a = some (.dT kvs) ∧ y = .ref b ∧ H2 b = some (.tup [.int m, .int n]) ∧ Q (.bl (valV kvs (keyP (m, n))).isSome) H2 := rfl
theorem pc_dinT (hu : X.A.units + 1 < cLine) (hi : PE X i ty) (ho : PE X o td) : PC X .In i o (jDInT ty td) := by
  refine ⟨fun pins s σ H Q I q => (pc_din hu hi.cl ho.cl).run pins s σ H Q I ⟨_, q, fun y H1 k => ⟨_, k, fun x H2 ⟨a, kvs, b, m, n, e1, h1, e2, h2, q⟩ => ⟨a, _, e1, by rw [e2]; exact DGet.t (k := keyP (m, n)) h1 h2, q⟩⟩⟩⟩
def jDPut (td ty tv : TE) : TS := fun D σ H => tv σ H fun v H1 => td σ H1 fun x H2 => ty σ H2 fun y H3 => ∃ a kvs k, x = .ref a ∧ H3 a = some (.dK kvs) ∧ y = kV k ∧ kvs.length ≤ 100000 ∧ D.nx σ (upd H3 a (.dK (putK kvs k v)))
@[simp] theorem j_dput {tv : TE} {D : Ends} {σ : L2.St} {H : Hp} : jDPut td ty tv D σ H = tv σ H fun v H1 => td σ H1 fun x H2 => ty σ H2 fun y H3 => ∃ a kvs k, x = .ref a ∧ H3 a = some (.dK kvs) ∧ y = kV k ∧ kvs.length ≤ 100000 ∧ D.nx σ (upd H3 a (.dK (putK kvs k v))) := rfl
theorem lt_line {n : Nat} (h : n ≤ 100000) : n < sizeLine := Nat.lt_of_le_of_lt h (by decide)
theorem ps_dputJ {tv : TE} {pos' : Pos} (hu : X.A.units + 1 < cLine) (ho : PE X o td) (hi : PE X i ty) (hv : PE X value tv) (hs : swapsWith value (some (.Subscript o i pos')) pos.line X.env = pure false) :
    PS X (.Assign [.Subscript o i pos'] value pos) (jDPut td ty tv) :=
  (ps_dput hu ho.cl hi.cl hv.cl hs).by fun D σ H q => ⟨_, q, fun v H1 k => ⟨_, k, fun x H2 k => ⟨_, k, fun y H3 ⟨a, kvs, k, e1, h1, e2, z, q⟩ => ⟨a, _, e1, by rw [e2]; exact DPut.k h1 (lt_line z), q⟩⟩⟩⟩
def jDPutT (td ty tv : TE) : TS := fun D σ H => tv σ H fun v H1 => td σ H1 fun x H2 => ty σ H2 fun y H3 => ∃ a kvs b m n, x = .ref a ∧ H3 a = some (.dT kvs) ∧ y = .ref b ∧ H3 b = some (.tup [.int m, .int n]) ∧ kvs.length ≤ 100000 ∧ D.nx σ (upd H3 a (.dT (putK kvs (keyP (m, n)) v)))
@[simp] theorem j_dputT {tv : TE} {D : Ends} {σ : L2.St} {H : Hp} : jDPutT td ty tv D σ H = tv σ H fun v H1 => td σ H1 fun x H2 => ty σ H2 fun y H3 => ∃ a kvs b m n, x = .ref a ∧ H3 a = some (.dT kvs) ∧ y = .ref b ∧ H3 b = some (.tup [.int m, .int n]) ∧ kvs.length ≤ 100000 ∧ D.nx σ (upd H3 a (.dT (putK kvs (keyP (m, n)) v))) := rfl
theorem ps_dputT {tv : TE} {pos' : Pos} (hu : X.A.units + 1 < cLine) (ho : PE X o td) (hi : PE X i ty) (hv : PE X value tv) (hs : swapsWith value (some (.Subscript o i pos')) pos.line X.env = pure false) :
    PS X (.Assign [.Subscript o i pos'] value pos) (jDPutT td ty tv) :=
  (ps_dput hu ho.cl hi.cl hv.cl hs).by fun D σ H q => ⟨_, q, fun v H1 k => ⟨_, k, fun x H2 k => ⟨_, k, fun y H3 ⟨a, kvs, b, m, n, e1, h1, e2, h2, z, q⟩ => ⟨a, _, e1, by rw [e2]; exact DPut.t (k := keyP (m, n)) h1 h2 (lt_line z), q⟩⟩⟩⟩
@[simp] theorem j_ddel {D : Ends} {σ : L2.St} {H : Hp} : sDDel td ty D σ H = td σ H fun x H1 => ty σ H1 fun y H2 => ∃ a kvs k, x = .ref a ∧ H2 a = some (.dK kvs) ∧ y = kV k ∧ (valV kvs k).isSome = true ∧ D.nx σ (upd H2 a (.dK (dropK kvs k))) := rfl

/-! calls of built-ins by values -/
def tyN (H : Hp) : V → Option String
  | .non => some "NoneType"
  | .bl _ => some "bool"
  | .int _ => some "int"
  | .str _ => some "str"
  | .ref a => match H a with
    | some (.lst _) => some "list"
    | some (.tup _) => some "tuple"
    | some (.dK _) => some "dict"
    | some (.dT _) => some "dict"
    | _ => none
  | _ => none
theorem tyN_of {K : PySem.W.Frag} {H : Hp} {x : V} {n : String} (h : tyN H x = some n) : TyX K H x (.type n) := by
  cases x with
  | non => cases h; exact .base .non
  | bl b => cases h; exact .base (.bl b)
  | int i => cases h; exact .base (.int i)
  | str s => cases h; exact .base (.str s)
  | byt b => cases h
  | flt b => cases h
  | ty n => cases h
  | ref a =>
    unfold tyN at h
    dsimp only at h
    split at h
    · rename_i e; cases h; exact .base (.lst e)
    · rename_i e; cases h; exact .base (.tup e)
    · rename_i e; cases h; exact .base (.dK e)
    · rename_i e; cases h; exact .base (.dT e)
    · cases h
def jIs : List V → Hp → VK → Prop := fun xs H Q => ∃ x n t b, xs = [x, .ty n] ∧ tyN H x = some t ∧ kitB t n = some b ∧ Q (.bl b) H
theorem call_isJ : CallR X (.builtin "isinstance") jIs := callBy call_isi fun xs H Q ⟨x, n, t, b, e1, e2, e3, q⟩ => ⟨x, .ty n, _, _, b, e1, .ty n, tyN_of e2, kit_ty e3, q⟩
def jLen : List V → Hp → VK → Prop := fun vs H Q => ∃ p xs, vs = [.ref p] ∧ H p = some (.lst xs) ∧ Q (.int xs.length) H
theorem call_lenJ : CallR X (.builtin "len") jLen := callBy call_len_seq fun vs H Q ⟨p, xs, e, h, q⟩ => ⟨p, xs, e, .inl (.inl (.inl h)), q⟩
def jLenT : List V → Hp → VK → Prop := fun vs H Q => ∃ p xs, vs = [.ref p] ∧ H p = some (.tup xs) ∧ Q (.int xs.length) H
theorem call_lenT : CallR X (.builtin "len") jLenT := callBy call_len_seq fun vs H Q ⟨p, xs, e, h, q⟩ => ⟨p, xs, e, .inr (.inl (.inl h)), q⟩
def jList : List V → Hp → VK → Prop := fun vs H Q => ∃ p xs, vs = [.ref p] ∧ (H p = some (.lst xs) ∨ H p = some (.tup xs)) ∧ ∀ l H2, H l = none → Ex H H2 → H2 l = some (.lst xs) → Q (.ref l) H2
theorem call_listJ : CallR X (.type "list") jList := callBy call_list_of fun vs H Q ⟨p, xs, e, h, q⟩ => ⟨p, xs, e, h.imp (fun h => .inl (.inl h)) (fun h => .inl (.inl h)), fun l hl => q l _ hl (Ex.new hl) upd_same⟩
@[simp] theorem kb_ii : kitB "int" "int" = some true := by decide +kernel
@[simp] theorem kb_bi : kitB "bool" "int" = some true := by decide +kernel
@[simp] theorem kb_bb : kitB "bool" "bool" = some true := by decide +kernel
@[simp] theorem kb_ib : kitB "int" "bool" = some false := by decide +kernel
@[simp] theorem kb_ni : kitB "NoneType" "int" = some false := by decide +kernel
@[simp] theorem kb_si : kitB "str" "int" = some false := by decide +kernel
@[simp] theorem kb_li : kitB "list" "int" = some false := by decide +kernel
@[simp] theorem kb_ti : kitB "tuple" "int" = some false := by decide +kernel
@[simp] theorem kb_di : kitB "dict" "int" = some false := by decide +kernel
@[simp] theorem kb_nb : kitB "NoneType" "bool" = some false := by decide +kernel
@[simp] theorem kb_sb : kitB "str" "bool" = some false := by decide +kernel
@[simp] theorem kb_lb : kitB "list" "bool" = some false := by decide +kernel
@[simp] theorem kb_tb : kitB "tuple" "bool" = some false := by decide +kernel
@[simp] theorem kb_db : kitB "dict" "bool" = some false := by decide +kernel
@[simp] theorem kb_ll : kitB "list" "list" = some true := by decide +kernel
@[simp] theorem kb_tt : kitB "tuple" "tuple" = some true := by decide +kernel
@[simp] theorem kb_it : kitB "int" "tuple" = some false := by decide +kernel
@[simp] theorem kb_bt : kitB "bool" "tuple" = some false := by decide +kernel
@[simp] theorem kb_nt : kitB "NoneType" "tuple" = some false := by decide +kernel
@[simp] theorem kb_st : kitB "str" "tuple" = some false := by decide +kernel
@[simp] theorem kb_lt : kitB "list" "tuple" = some false := by decide +kernel
@[simp] theorem kb_dt : kitB "dict" "tuple" = some false := by decide +kernel
@[simp] theorem kb_ss : kitB "str" "str" = some true := by decide +kernel
@[simp] theorem tyN_non {H : Hp} : tyN H .non = some "NoneType" := rfl
@[simp] theorem tyN_bl {H : Hp} {b : Bool} : tyN H (.bl b) = some "bool" := rfl
@[simp] theorem tyN_int {H : Hp} {b : Int} : tyN H (.int b) = some "int" := rfl
@[simp] theorem tyN_str {H : Hp} {b : Str} : tyN H (.str b) = some "str" := rfl
theorem tyN_lst {H : Hp} {a : Addr} {xs : List V} (h : H a = some (.lst xs)) : tyN H (.ref a) = some "list" := by simp [tyN, h]
theorem tyN_tup {H : Hp} {a : Addr} {xs : List V} (h : H a = some (.tup xs)) : tyN H (.ref a) = some "tuple" := by simp [tyN, h]
theorem tyN_dK {H : Hp} {a : Addr} {xs : List (Key × V)} (h : H a = some (.dK xs)) : tyN H (.ref a) = some "dict" := by simp [tyN, h]
@[simp] theorem j_is {x : V} {n : String} {H : Hp} {Q : VK} : jIs [x, .ty n] H Q = ∃ t b, tyN H x = some t ∧ kitB t n = some b ∧ Q (.bl b) H := propext ⟨fun ⟨_, _, t, b, e, h⟩ => by cases e; exact ⟨t, b, h⟩, fun ⟨t, b, h⟩ => ⟨_, _, t, b, rfl, h⟩⟩
@[simp] theorem j_len {p : Addr} {H : Hp} {Q : VK} : jLen [.ref p] H Q = ∃ xs, H p = some (.lst xs) ∧ Q (.int xs.length) H := by simp [jLen]
@[simp] theorem j_app {l : Addr} {y : V} {H : Hp} {Q : VK} : rAppend (.ref l) [y] H Q = ∃ xs, H l = some (.lst xs) ∧ xs.length < sizeLine ∧ Q .non (upd H l (.lst (xs ++ [y]))) := by simp [rAppend]
@[simp] theorem j_ixL {p : Addr} {i : Int} {H : Hp} {Q : VK} : jIxL (.ref p) (.int i) H Q = ∃ xs v, H p = some (.lst xs) ∧ 0 ≤ i ∧ xs[i.toNat]? = some v ∧ Q v H := by simp [jIxL]
@[simp] theorem j_ixT {p : Addr} {i : Int} {H : Hp} {Q : VK} : jIxT (.ref p) (.int i) H Q = ∃ xs v, H p = some (.tup xs) ∧ 0 ≤ i ∧ xs[i.toNat]? = some v ∧ Q v H := by simp [jIxT]

/-! methods of lists, targets that are pairs -/
def jBM (r : V → List V → Hp → VK → Prop) (to : TE) (tr : TA) : TE := fun σ H Q => to σ H fun x H1 => (∃ p xs, x = .ref p ∧ H1 p = some (.lst xs)) ∧ tr σ H1 fun vs H2 => r x vs H2 Q
@[simp] theorem j_bm {r : V → List V → Hp → VK → Prop} {to : TE} {tr : TA} {σ : L2.St} {H : Hp} {Q : VK} : jBM r to tr σ H Q = to σ H fun x H1 => (∃ p xs, x = .ref p ∧ H1 p = some (.lst xs)) ∧ tr σ H1 fun vs H2 => r x vs H2 Q := rfl
theorem pe_bmL {o e : Expr} {es : List Expr} {to : TE} {tr : TA} {name : Str} {apos cpos : Pos} {id : String} {r : V → List V → Hp → VK → Prop} (slot : Slot "list" name id) (hty : typeOf (.builtin id) = pure (.type "method_descriptor")) (hm : MtR X id r) (ho : PE X o to) (ha : PA X (e :: es) tr)
    (h1 : attributeBase o name X.env (eval o X.env) = eval o X.env := by rfl)
    (h2 : ((backTo cpos (starEach (e :: es) X.env)).all (fun x => !x.1) && (backToKw cpos (keywordEach [] X.env)).all (fun x => x.1.isSome) && decide ((e :: es).length + ([] : List Keyword).length + (if ([] : List Keyword).isEmpty then 0 else 1) < 30)) = true := by rfl)
    (h3 : (apos.endLine == cpos.line) = true := by rfl) (h4 : starEach (e :: es) X.env = (false, eval e X.env) :: starEach es X.env := by rfl) (h5 : (backTo cpos (starEach es X.env)).any (·.1) = false := by rfl) :
    PE X (.Call (.Attribute o name apos) (e :: es) [] cpos) (jBM r to tr) :=
  (pe_bm PySem.F.plainAttrs_list slot hty hm ho.cl ha h1 h2 h3 h4 h5).by fun σ H Q q => ⟨_, q, fun x H1 ⟨⟨p, xs, e, h⟩, k⟩ => ⟨by rw [e]; exact .inl ⟨rfl, xs, .inl (.inl h)⟩, k⟩⟩
def jBM0 (r : V → List V → Hp → VK → Prop) (to : TE) : TE := fun σ H Q => to σ H fun x H1 => (∃ p xs, x = .ref p ∧ H1 p = some (.lst xs)) ∧ r x [] H1 Q
@[simp] theorem j_bm0 {r : V → List V → Hp → VK → Prop} {to : TE} {σ : L2.St} {H : Hp} {Q : VK} : jBM0 r to σ H Q = to σ H fun x H1 => (∃ p xs, x = .ref p ∧ H1 p = some (.lst xs)) ∧ r x [] H1 Q := rfl
theorem pe_bmL0 {o : Expr} {to : TE} {name : Str} {apos cpos : Pos} {id : String} {r : V → List V → Hp → VK → Prop} (slot : Slot "list" name id) (hty : typeOf (.builtin id) = pure (.type "method_descriptor")) (hm : MtR X id r) (ho : PE X o to)
    (h1 : attributeBase o name X.env (eval o X.env) = eval o X.env := by rfl) (h2 : (apos.endLine == cpos.line) = true := by rfl) : PE X (.Call (.Attribute o name apos) [] [] cpos) (jBM0 r to) :=
  (pe_bm0 PySem.F.plainAttrs_list slot hty hm ho.cl h1 h2).by fun σ H Q q => ⟨_, q, fun x H1 ⟨⟨p, xs, e, h⟩, k⟩ => ⟨by rw [e]; exact .inl ⟨rfl, xs, .inl (.inl h)⟩, k⟩⟩
def jBMD (r : V → List V → Hp → VK → Prop) (to : TE) (tr : TA) : TE := fun σ H Q => to σ H fun x H1 => (∃ p xs, x = .ref p ∧ H1 p = some (.dT xs)) ∧ tr σ H1 fun vs H2 => r x vs H2 Q
@[simp] theorem j_bmd {r : V → List V → Hp → VK → Prop} {to : TE} {tr : TA} {σ : L2.St} {H : Hp} {Q : VK} : jBMD r to tr σ H Q = to σ H fun x H1 => (∃ p xs, x = .ref p ∧ H1 p = some (.dT xs)) ∧ tr σ H1 fun vs H2 => r x vs H2 Q := rfl
theorem pe_popT {o e : Expr} {to : TE} {tr : TA} {apos cpos : Pos} (hu : X.A.units + 1 < cLine) (ho : PE X o to) (ha : PA X [e] tr)
    (h1 : attributeBase o "pop" X.env (eval o X.env) = eval o X.env := by rfl)
    (h2 : ((backTo cpos (starEach [e] X.env)).all (fun x => !x.1) && (backToKw cpos (keywordEach [] X.env)).all (fun x => x.1.isSome) && decide ([e].length + ([] : List Keyword).length + (if ([] : List Keyword).isEmpty then 0 else 1) < 30)) = true := by rfl)
    (h3 : (apos.endLine == cpos.line) = true := by rfl) (h4 : starEach [e] X.env = (false, eval e X.env) :: starEach [] X.env := by rfl) (h5 : (backTo cpos (starEach [] X.env)).any (·.1) = false := by rfl) :
    PE X (.Call (.Attribute o "pop" apos) [e] [] cpos) (jBMD rPopT1 to tr) :=
  (pe_bm PySem.F.plainAttrs_dict PySem.F.slot_dict_pop PySem.F.type_dict_pop (mt_popT1 hu) ho.cl ha h1 h2 h3 h4 h5).by fun σ H Q q => ⟨_, q, fun x H1 ⟨⟨p, xs, e, h⟩, k⟩ => ⟨by rw [e]; exact .inr (.inr (.inl ⟨rfl, .inr ⟨xs, h⟩⟩)), k⟩⟩
def jTupG (n : Nat) (t : TGs) : TG := fun v σ H Q => ∃ a xs, v = .ref a ∧ H a = some (.tup xs) ∧ xs.length = n ∧ t xs σ H Q
@[simp] theorem j_tupG {n : Nat} {t : TGs} {a : Addr} {σ : L2.St} {H : Hp} {Q : L2.St → Hp → Prop} : jTupG n t (.ref a) σ H Q = ∃ xs, H a = some (.tup xs) ∧ xs.length = n ∧ t xs σ H Q := by simp [jTupG]
theorem pg_tupJ {es : List Expr} {k : Nat} {t : TGs} {n : Nat} {pos : Pos} (hc : X.calm = true) (h : PGs X es t) (hn : (assignEach es X.env).length = n := by rfl) (hst : (assignEach es X.env).findIdx? (·.1) = none := by rfl) : PG X (.Tuple es k pos) (jTupG n t) :=
  (pg_tup hc h hn hst).by fun v σ H Q ⟨a, xs, e, h, z, q⟩ => ⟨a, xs, e, .inl (.inl h), z, q⟩
end
/-- the statement ahead is read for any word that follows from Mid -/
theorem seq_by {t u : TS} {D : Ends} {σ : L2.St} {H : Hp} (Mid : L2.St → Hp → Prop) (h : ∀ N : L2.St → Hp → Prop, (∀ s1 H1, Mid s1 H1 → N s1 H1) → t { D with nx := N } σ H) (k : ∀ s1 H1, Mid s1 H1 → u D s1 H1) : tSeq t u D σ H := h (u D) k
/-! ## isinstance's answers from what the top says of the classes -/
theorem kit_ref {K : PySem.W.Frag} {D C : Addr} {b : Bool} (hd : PySem.W.hasDictIn K C = true) (ht : PySem.W.typeIn K (.ref C) = some (.type "type")) (hs : PySem.W.subIn K (.ref C) (.ref C) = some true) (h : PySem.W.subIn K (.ref D) (.ref C) = some b) :
    PySem.W.kitOne K (.ref D) (.ref C) = some b := by
  unfold PySem.W.kitOne
  by_cases e : D = C
  · subst e
    rw [hs] at h
    cases h
    simp
  · rw [if_neg (by simp [e])]
    obtain ⟨cd, hc, _⟩ := PySem.W.any_some hd
    show (if ((PySem.W.clsIn K C).isSome && PySem.W.typeIn K (.ref C) == some (.type "type")) = true then PySem.W.subIn K (.ref D) (.ref C) else none) = some b
    rw [hc, ht, if_pos (by rfl)]
    exact h
theorem kit_tyo {K : PySem.W.Frag} {D : Addr} {n : String} {b : Bool} (hm : PySem.W.kitMeta n = true) (h : PySem.W.subIn K (.ref D) (.type n) = some b) : PySem.W.kitOne K (.ref D) (.type n) = some b := by
  unfold PySem.W.kitOne
  rw [if_neg (by simp)]
  show (if PySem.W.kitMeta n = true then PySem.W.subIn K (.ref D) (.type n) else none) = some b
  rw [if_pos hm]
  exact h
section
variable {CX : CXT} {P : Program} {w : World} {K : PySem.W.Frag} {mg : Str → Option Value} {base : Heap} {N : List Str} {qual : Str} {scope : Scope} {f : Addr} {cd : Value} {A : Around} {outer : List Env} {s : Shared} {H : Hp} {E : XK}
@[simp] theorem cx_K : (cxOf CX P w K mg base N qual scope f cd A outer s H E).K = K := rfl
@[simp] theorem nox_K {X : Cx} : X.nox.K = X.K := rfl
end
end Jk

namespace Jk
open PySem PySem.Spec L2 Evl
@[simp] theorem kc_nl : kitB "NoneType" "list" = some false := by decide +kernel
@[simp] theorem kc_bl : kitB "bool" "list" = some false := by decide +kernel
@[simp] theorem kc_il : kitB "int" "list" = some false := by decide +kernel
@[simp] theorem kc_sl : kitB "str" "list" = some false := by decide +kernel
@[simp] theorem kc_tl : kitB "tuple" "list" = some false := by decide +kernel
@[simp] theorem kc_dl : kitB "dict" "list" = some false := by decide +kernel
@[simp] theorem kc_ns : kitB "NoneType" "str" = some false := by decide +kernel
@[simp] theorem kc_bs : kitB "bool" "str" = some false := by decide +kernel
@[simp] theorem kc_is : kitB "int" "str" = some false := by decide +kernel
@[simp] theorem kc_ls : kitB "list" "str" = some false := by decide +kernel
@[simp] theorem kc_ts : kitB "tuple" "str" = some false := by decide +kernel
@[simp] theorem kc_ds : kitB "dict" "str" = some false := by decide +kernel
/-! ## lists of pairs of ints -/
def TupsAt (H : Hp) (ts : List Addr) (prs : List (Int × Int)) : Prop := ts.length = prs.length ∧ ∀ (k : Nat) (t : Addr) (p : Int × Int), ts[k]? = some t → prs[k]? = some p → H t = some (.tup [.int p.1, .int p.2])
theorem TupsAt.map {H H' : Hp} {ts : List Addr} {prs : List (Int × Int)} (h : TupsAt H ts prs) (e : ∀ t o, H t = some (.tup o) → H' t = some (.tup o)) : TupsAt H' ts prs := ⟨h.1, fun k t p a b => e _ _ (h.2 k t p a b)⟩
theorem TupsAt.up {H H' : Hp} {ts : List Addr} {prs : List (Int × Int)} (h : TupsAt H ts prs) (e : Ex H H') : TupsAt H' ts prs := h.map fun _ _ z => e _ _ z
theorem TupsAt.upd {H : Hp} {ts : List Addr} {prs : List (Int × Int)} {D : Addr} {xs : List V} {o : HO} (h : TupsAt H ts prs) (hD : H D = some (.lst xs)) : TupsAt (L2.upd H D o) ts prs := h.map fun t u z => by
  rw [upd_ne (ne_of z hD (by intro y; cases y))]
  exact z
theorem TupsAt.nil (H : Hp) : TupsAt H [] [] := ⟨rfl, fun k t p a b => by simp at a⟩
theorem TupsAt.snoc {H : Hp} {ts : List Addr} {prs : List (Int × Int)} {t : Addr} {p : Int × Int} (h : TupsAt H ts prs) (ht : H t = some (.tup [.int p.1, .int p.2])) : TupsAt H (ts ++ [t]) (prs ++ [p]) := by
  refine ⟨by simp [h.1], fun k t' p' a b => ?_⟩
  by_cases hk : k < ts.length
  · rw [List.getElem?_append_left hk] at a
    rw [List.getElem?_append_left (by rw [← h.1]; exact hk)] at b
    exact h.2 k t' p' a b
  · rw [List.getElem?_append_right (by omega)] at a
    rw [List.getElem?_append_right (by rw [← h.1]; omega)] at b
    have k0 : k - ts.length = 0 := by
      have := (List.getElem?_eq_some_iff.mp a).1
      simp at this; omega
    rw [k0] at a
    rw [show k - prs.length = 0 by rw [← h.1]; exact k0] at b
    simp at a b
    subst a b
    exact ht
theorem TupsAt.cons {H : Hp} {ts : List Addr} {prs : List (Int × Int)} {t : Addr} {p : Int × Int} : TupsAt H (t :: ts) (p :: prs) ↔ H t = some (.tup [.int p.1, .int p.2]) ∧ TupsAt H ts prs :=
  ⟨fun h => ⟨h.2 0 t p rfl rfl, by have := h.1; simpa using this, fun k t' p' a b => h.2 (k + 1) t' p' (by simpa using a) (by simpa using b)⟩,
    fun ⟨a, b, c⟩ => ⟨by simp [b], fun k t' p' x y => match k, x, y with
      | 0, x, y => by cases x; cases y; exact a
      | k + 1, x, y => c k t' p' (by simpa using x) (by simpa using y)⟩⟩
theorem TupsAt.app {H : Hp} {ts us : List Addr} {prs qrs : List (Int × Int)} (h : TupsAt H ts prs) (g : TupsAt H us qrs) : TupsAt H (ts ++ us) (prs ++ qrs) := by
  induction ts generalizing prs with
  | nil =>
    have : prs = [] := List.length_eq_zero_iff.mp h.1.symm
    subst this
    exact g
  | cons t ts ih =>
    cases prs with
    | nil => have := h.1; simp at this
    | cons p prs =>
      obtain ⟨a, b⟩ := TupsAt.cons.mp h
      exact TupsAt.cons.mpr ⟨a, ih b⟩
def pd (p : Int × Int) : PyData := .tuple [.int p.1, .int p.2]
theorem dpP {K : PySem.W.Frag} {H : Hp} {t : Addr} {p : Int × Int} (h : H t = some (.tup [.int p.1, .int p.2])) : Dp K H (.ref t) (pd p) := .tup (.inl (.inl h)) (.cons (.int _) (.cons (.int _) .nil))
theorem dpPs {K : PySem.W.Frag} {H : Hp} : ∀ {ts : List Addr} {prs : List (Int × Int)}, TupsAt H ts prs → DpAll K H (ts.map V.ref) (prs.map pd)
  | [], [], _ => .nil
  | [], p :: prs, h => by have := h.1; simp at this
  | t :: ts, [], h => by have := h.1; simp at this
  | t :: ts, p :: prs, h => .cons (dpP (TupsAt.cons.mp h).1) (dpPs (TupsAt.cons.mp h).2)
theorem dpL {K : PySem.W.Frag} {H : Hp} {l : Addr} {ts : List Addr} {prs : List (Int × Int)} (h : H l = some (.lst (ts.map V.ref))) (t : TupsAt H ts prs) : Dp K H (.ref l) (.list (prs.map pd)) := .lst (.inl (.inl h)) (dpPs t)
theorem pd_can (p : Int × Int) : (pd p).canLay0 = true := by simp [pd, PyData.canLay0, PyData.canLayAll0]
theorem pd_dep (p : Int × Int) : (pd p).depth = 1 := by simp [pd, PyData.depth, PyData.depthAll]
theorem pds_can : ∀ prs : List (Int × Int), PyData.canLayAll0 (prs.map pd) = true
  | [] => rfl
  | p :: prs => by simp [PyData.canLayAll0, pd_can p, pds_can prs]
theorem pds_dep : ∀ prs : List (Int × Int), PyData.depthAll (prs.map pd) ≤ 1
  | [] => by simp [PyData.depthAll]
  | p :: prs => by
    have h1 := pds_dep prs
    have h2 := pd_dep p
    simp only [List.map_cons, PyData.depthAll]
    omega
theorem pd_shaped (p : Int × Int) : SeqAt.shaped (pd p) = true := by
  show ((pd p).canLay0 && decide ((pd p).depth ≤ 64)) = true
  rw [pd_can, pd_dep]; rfl
theorem pds_shaped (prs : List (Int × Int)) : SeqAt.shaped (.list (prs.map pd)) = true := by
  have h1 := pds_dep prs
  have h2 : PyData.depth (.list (prs.map pd)) ≤ 64 := by simp only [PyData.depth]; omega
  show (PyData.canLay0 (.list (prs.map pd)) && decide (PyData.depth (.list (prs.map pd)) ≤ 64)) = true
  simp [PyData.canLay0, pds_can, h2]
theorem pd_eqv (p q : Int × Int) : PyData.eqv (pd p) (pd q) = decide (p = q) := by
  obtain ⟨a, b⟩ := p
  obtain ⟨c, d⟩ := q
  by_cases h1 : a = c <;> by_cases h2 : b = d <;> simp [pd, PyData.eqv, PyData.eqvAll, h1, h2]
theorem pds_any (prs : List (Int × Int)) (p : Int × Int) : ((prs.map pd).any fun z => PyData.eqv z (pd p)) = decide (p ∈ prs) := by
  induction prs with
  | nil => rfl
  | cons q prs ih =>
    rw [List.map_cons, List.any_cons, ih, pd_eqv]
    by_cases h : q = p
    · simp [h]
    · simp [h, Ne.symm h]
theorem pds_eqv (prs qrs : List (Int × Int)) : PyData.eqv (.list (prs.map pd)) (.list (qrs.map pd)) = decide (prs = qrs) := by
  rw [PyData.eqv]
  induction prs generalizing qrs with
  | nil =>
    cases qrs with
    | nil => simp [PyData.eqvAll]
    | cons q qrs => simp [PyData.eqvAll]
  | cons p prs ih =>
    cases qrs with
    | nil => simp [PyData.eqvAll]
    | cons q qrs =>
      rw [List.map_cons, List.map_cons, PyData.eqvAll, ih, pd_eqv]
      by_cases h : p = q <;> simp [h]
def LsP (H : Hp) (l : Addr) (prs : List (Int × Int)) : Prop := ∃ ts : List Addr, H l = some (.lst (ts.map V.ref)) ∧ TupsAt H ts prs
theorem LsP.up {H H' : Hp} {l : Addr} {prs : List (Int × Int)} (h : LsP H l prs) (e : Ex H H') : LsP H' l prs := let ⟨ts, a, b⟩ := h; ⟨ts, e _ _ a, b.up e⟩
theorem LsP.dp {K : PySem.W.Frag} {H : Hp} {l : Addr} {prs : List (Int × Int)} (h : LsP H l prs) : Dp K H (.ref l) (.list (prs.map pd)) := let ⟨_, a, b⟩ := h; dpL a b
theorem tups_uniq {H : Hp} {ts : List Addr} {prs qrs : List (Int × Int)} (h : TupsAt H ts prs) (g : TupsAt H ts qrs) : prs = qrs := by
  refine List.ext_getElem? fun k => ?_
  by_cases hk : k < ts.length
  · have a := h.2 k _ _ (List.getElem?_eq_getElem hk) (List.getElem?_eq_getElem (by rw [← h.1]; exact hk))
    have b := g.2 k _ _ (List.getElem?_eq_getElem hk) (List.getElem?_eq_getElem (by rw [← g.1]; exact hk))
    rw [a] at b
    rw [List.getElem?_eq_getElem (by rw [← h.1]; exact hk), List.getElem?_eq_getElem (by rw [← g.1]; exact hk)]
    have e := HO.tup.inj (Option.some.inj b)
    simp at e
    exact congrArg some (Prod.ext e.1 e.2)
  · rw [List.getElem?_eq_none (by rw [← h.1]; omega), List.getElem?_eq_none (by rw [← g.1]; omega)]
theorem LsP.uniq {H : Hp} {l : Addr} {prs qrs : List (Int × Int)} (h : LsP H l prs) (g : LsP H l qrs) : qrs = prs := by
  obtain ⟨ts, a, b⟩ := h
  obtain ⟨us, c, d⟩ := g
  rw [a] at c
  have e : ts = us := (List.map_inj_right (fun x y h => by cases h; rfl)).mp (HO.lst.inj (Option.some.inj c))
  subst e
  exact tups_uniq d b
theorem lsP_ex {H : Hp} {l : Addr} {prs : List (Int × Int)} {R : List (Int × Int) → Prop} (h : LsP H l prs) : (∃ qrs, LsP H l qrs ∧ R qrs) ↔ R prs := ⟨fun ⟨_, a, b⟩ => by rw [← h.uniq a]; exact b, fun r => ⟨prs, h, r⟩⟩
def PrA (H : Hp) (t : Addr) (p : Int × Int) : Prop := H t = some (.tup [.int p.1, .int p.2])
theorem PrA.of {H : Hp} {t : Addr} {a b : Int} (h : H t = some (.tup [.int a, .int b])) : PrA H t (a, b) := h
theorem prA_ex {H : Hp} {t : Addr} {p : Int × Int} {R : Int × Int → Prop} (h : PrA H t p) : (∃ q, PrA H t q ∧ R q) ↔ R p := ⟨fun ⟨q, a, b⟩ => by
  unfold PrA at h a
  rw [h] at a
  have e := HO.tup.inj (Option.some.inj a)
  simp at e
  have : p = q := Prod.ext e.1 e.2
  rw [this]; exact b, fun r => ⟨p, h, r⟩⟩
section
variable {X : Cx}
def jInP : R2 := fun x y H Q => ∃ t l, x = .ref t ∧ y = .ref l ∧ ∃ p, PrA H t p ∧ ∃ prs, LsP H l prs ∧ Q (.bl (decide (p ∈ prs))) H
def jNotInP : R2 := fun x y H Q => ∃ t l, x = .ref t ∧ y = .ref l ∧ ∃ p, PrA H t p ∧ ∃ prs, LsP H l prs ∧ Q (.bl (!decide (p ∈ prs))) H
def jEqP : R2 := fun x y H Q => ∃ t l, x = .ref t ∧ y = .ref l ∧ ∃ prs, LsP H t prs ∧ ∃ qrs, LsP H l qrs ∧ Q (.bl (decide (prs = qrs))) H
def jNeP : R2 := fun x y H Q => ∃ t l, x = .ref t ∧ y = .ref l ∧ ∃ prs, LsP H t prs ∧ ∃ qrs, LsP H l qrs ∧ Q (.bl (!decide (prs = qrs))) H
theorem op_inP (hu : X.A.units + 65 < cLine) : OpR X (compareOp .In) jInP := opBy (op_inD hu) fun x y H Q ⟨t, l, e1, e2, p, h1, prs, h2, q⟩ => ⟨pd p, prs.map pd, by rw [e1]; exact dpP h1, by rw [e2]; exact h2.dp, pd_shaped p, pds_shaped prs, by rw [pds_any]; exact q⟩
theorem op_notInP (hu : X.A.units + 65 < cLine) : OpR X (compareOp .NotIn) jNotInP := opBy (op_notInD hu) fun x y H Q ⟨t, l, e1, e2, p, h1, prs, h2, q⟩ => ⟨pd p, prs.map pd, by rw [e1]; exact dpP h1, by rw [e2]; exact h2.dp, pd_shaped p, pds_shaped prs, by rw [pds_any]; exact q⟩
theorem op_eqP (hu : X.A.units + 64 < cLine) : OpR X (compareOp .Eq) jEqP := opBy (op_eqD hu) fun x y H Q ⟨t, l, e1, e2, prs, h1, qrs, h2, q⟩ => ⟨_, _, by rw [e1]; exact h1.dp, by rw [e2]; exact h2.dp, pds_shaped prs, pds_shaped qrs, by rw [pds_eqv]; exact q⟩
theorem op_neP (hu : X.A.units + 64 < cLine) : OpR X (compareOp .NotEq) jNeP := opBy (op_neD hu) fun x y H Q ⟨t, l, e1, e2, prs, h1, qrs, h2, q⟩ => ⟨_, _, by rw [e1]; exact h1.dp, by rw [e2]; exact h2.dp, pds_shaped prs, pds_shaped qrs, by rw [pds_eqv]; exact q⟩
@[simp] theorem j_inP {t l : Addr} {H : Hp} {Q : VK} : jInP (.ref t) (.ref l) H Q = ∃ p, PrA H t p ∧ ∃ prs, LsP H l prs ∧ Q (.bl (decide (p ∈ prs))) H := by simp [jInP]
@[simp] theorem j_notInP {t l : Addr} {H : Hp} {Q : VK} : jNotInP (.ref t) (.ref l) H Q = ∃ p, PrA H t p ∧ ∃ prs, LsP H l prs ∧ Q (.bl (!decide (p ∈ prs))) H := by simp [jNotInP]
@[simp] theorem j_eqP {t l : Addr} {H : Hp} {Q : VK} : jEqP (.ref t) (.ref l) H Q = ∃ prs, LsP H t prs ∧ ∃ qrs, LsP H l qrs ∧ Q (.bl (decide (prs = qrs))) H := by simp [jEqP]
@[simp] theorem j_neP {t l : Addr} {H : Hp} {Q : VK} : jNeP (.ref t) (.ref l) H Q = ∃ prs, LsP H t prs ∧ ∃ qrs, LsP H l qrs ∧ Q (.bl (!decide (prs = qrs))) H := by simp [jNeP]
/-! lists of ints -/
def LsI (H : Hp) (l : Addr) (ns : List Int) : Prop := H l = some (.lst (ns.map V.int))
theorem LsI.uniq {H : Hp} {l : Addr} {ns ms : List Int} (h : LsI H l ns) (g : LsI H l ms) : ms = ns := by
  unfold LsI at h g
  rw [h] at g
  exact ((List.map_inj_right (fun x y h => by cases h; rfl)).mp (HO.lst.inj (Option.some.inj g))).symm
theorem lsI_ex {H : Hp} {l : Addr} {ns : List Int} {R : List Int → Prop} (h : LsI H l ns) : (∃ ms, LsI H l ms ∧ R ms) ↔ R ns := ⟨fun ⟨_, a, b⟩ => by rw [← h.uniq a]; exact b, fun r => ⟨ns, h, r⟩⟩
theorem dpIs {K : PySem.W.Frag} {H : Hp} : ∀ ns : List Int, DpAll K H (ns.map V.int) (ns.map PyData.int)
  | [] => .nil
  | n :: ns => .cons (.int n) (dpIs ns)
theorem dpI {K : PySem.W.Frag} {H : Hp} {l : Addr} {ns : List Int} (h : LsI H l ns) : Dp K H (.ref l) (.list (ns.map .int)) := .lst (.inl (.inl h)) (dpIs ns)
theorem is_can : ∀ ns : List Int, PyData.canLayAll0 (ns.map PyData.int) = true
  | [] => rfl
  | n :: ns => by simp [PyData.canLayAll0, PyData.canLay0, is_can ns]
theorem is_dep : ∀ ns : List Int, PyData.depthAll (ns.map PyData.int) = 0
  | [] => rfl
  | n :: ns => by simp [PyData.depthAll, PyData.depth, is_dep ns]
theorem is_shaped (ns : List Int) : SeqAt.shaped (.list (ns.map PyData.int)) = true := by
  show (PyData.canLay0 (.list (ns.map PyData.int)) && decide (PyData.depth (.list (ns.map PyData.int)) ≤ 64)) = true
  simp [PyData.canLay0, is_can, PyData.depth, is_dep]
theorem is_eqv (ns ms : List Int) : PyData.eqv (.list (ns.map PyData.int)) (.list (ms.map PyData.int)) = decide (ns = ms) := by
  rw [PyData.eqv]
  induction ns generalizing ms with
  | nil => cases ms <;> simp [PyData.eqvAll]
  | cons n ns ih =>
    cases ms with
    | nil => simp [PyData.eqvAll]
    | cons m ms =>
      rw [List.map_cons, List.map_cons, PyData.eqvAll, ih]
      by_cases h : n = m <;> simp [PyData.eqv, h]
def jEqI : R2 := fun x y H Q => ∃ t l, x = .ref t ∧ y = .ref l ∧ ∃ prs, LsI H t prs ∧ ∃ qrs, LsI H l qrs ∧ Q (.bl (decide (prs = qrs))) H
def jNeI : R2 := fun x y H Q => ∃ t l, x = .ref t ∧ y = .ref l ∧ ∃ prs, LsI H t prs ∧ ∃ qrs, LsI H l qrs ∧ Q (.bl (!decide (prs = qrs))) H
theorem op_eqI (hu : X.A.units + 64 < cLine) : OpR X (compareOp .Eq) jEqI := opBy (op_eqD hu) fun x y H Q ⟨t, l, e1, e2, prs, h1, qrs, h2, q⟩ => ⟨_, _, by rw [e1]; exact dpI h1, by rw [e2]; exact dpI h2, is_shaped prs, is_shaped qrs, by rw [is_eqv]; exact q⟩
theorem op_neI (hu : X.A.units + 64 < cLine) : OpR X (compareOp .NotEq) jNeI := opBy (op_neD hu) fun x y H Q ⟨t, l, e1, e2, prs, h1, qrs, h2, q⟩ => ⟨_, _, by rw [e1]; exact dpI h1, by rw [e2]; exact dpI h2, is_shaped prs, is_shaped qrs, by rw [is_eqv]; exact q⟩
@[simp] theorem j_eqI {t l : Addr} {H : Hp} {Q : VK} : jEqI (.ref t) (.ref l) H Q = ∃ prs, LsI H t prs ∧ ∃ qrs, LsI H l qrs ∧ Q (.bl (decide (prs = qrs))) H := by simp [jEqI]
@[simp] theorem j_neI {t l : Addr} {H : Hp} {Q : VK} : jNeI (.ref t) (.ref l) H Q = ∃ prs, LsI H t prs ∧ ∃ qrs, LsI H l qrs ∧ Q (.bl (!decide (prs = qrs))) H := by simp [jNeI]
/-! sorted(xs), xs a list of pairs -/
def pOf (H : Hp) : V → Int × Int
  | .ref q => match H q with
    | some (.tup [.int i, .int j]) => (i, j)
    | _ => (0, 0)
  | _ => (0, 0)
theorem pOf_at {H : Hp} {t : Addr} {p : Int × Int} (h : H t = some (.tup [.int p.1, .int p.2])) : pOf H (.ref t) = p := by simp [pOf, h]
theorem pOf_map {H : Hp} : ∀ {ts : List Addr} {prs : List (Int × Int)}, TupsAt H ts prs → (ts.map V.ref).map (pOf H) = prs
  | [], [], _ => rfl
  | [], p :: prs, h => by have := h.1; simp at this
  | t :: ts, [], h => by have := h.1; simp at this
  | t :: ts, p :: prs, h => by
    rw [List.map_cons, List.map_cons, pOf_at (TupsAt.cons.mp h).1, pOf_map (TupsAt.cons.mp h).2]
theorem tups_of {H : Hp} : ∀ {ts : List Addr}, (∀ t ∈ ts, H t = some (.tup [.int (pOf H (.ref t)).1, .int (pOf H (.ref t)).2])) → TupsAt H ts ((ts.map V.ref).map (pOf H))
  | [], _ => TupsAt.nil H
  | t :: ts, h => TupsAt.cons.mpr ⟨h t (by simp), tups_of fun u hu => h u (by simp [hu])⟩
def jSortP : List V → Hp → VK → Prop := fun vs H Q => ∃ l, vs = [.ref l] ∧ ∃ prs, LsP H l prs ∧ ∀ qrs D H', qrs.Perm prs → qrs.Pairwise lexLe → H D = none → Ex H H' → LsP H' D qrs → Q (.ref D) H'
@[simp] theorem j_sortP {l : Addr} {H : Hp} {Q : VK} : jSortP [.ref l] H Q = ∃ prs, LsP H l prs ∧ ∀ qrs D H', qrs.Perm prs → qrs.Pairwise lexLe → H D = none → Ex H H' → LsP H' D qrs → Q (.ref D) H' := by simp [jSortP]
theorem tup_at {H : Hp} {ts : List Addr} {prs : List (Int × Int)} (h : TupsAt H ts prs) {x : V} (hx : x ∈ ts.map V.ref) : ∃ t, x = .ref t ∧ t ∈ ts ∧ H t = some (.tup [.int (pOf H x).1, .int (pOf H x).2]) := by
  obtain ⟨t, ht, rfl⟩ := List.mem_map.mp hx
  obtain ⟨k, hk, e⟩ := List.mem_iff_getElem.mp ht
  have hk' : k < prs.length := by rw [← h.1]; exact hk
  have z := h.2 k t prs[k] (by rw [List.getElem?_eq_getElem hk, e]) (List.getElem?_eq_getElem hk')
  exact ⟨t, rfl, ht, by rw [pOf_at z]; exact z⟩
theorem call_sortP : CallR X (.builtin "sorted") jSortP := callBy cr_sortedPO fun vs H Q ⟨l, e, prs, ⟨ts, h1, h2⟩, q⟩ => by
  refine ⟨l, ts.map V.ref, pOf H, e, .inl (.inl h1), fun x hx => ?_, fun ys D s1 s2 hD => ?_⟩
  · obtain ⟨t, a, _, b⟩ := tup_at h2 hx
    exact ⟨t, a, b⟩
  · have hall : ∀ y ∈ ys, ∃ t, y = V.ref t ∧ t ∈ ts ∧ H t = some (.tup [.int (pOf H y).1, .int (pOf H y).2]) := fun y hy => tup_at h2 (s2.perm.mem_iff.mp hy)
    let adr : V → Addr := fun v => match v with | .ref t => t | _ => 0
    have ey : ys = (ys.map adr).map V.ref := by
      rw [List.map_map]
      refine List.ext_getElem (by simp) fun i h1 h2 => ?_
      obtain ⟨t, a, _⟩ := hall ys[i] (List.getElem_mem h1)
      simp [a, adr]
    have ex : Ex H (L2.upd H D (.lst ys)) := Ex.new hD
    refine q (ys.map (pOf H)) D _ ?_ ?_ hD ex ⟨ys.map adr, by rw [← ey]; exact upd_same, ?_⟩
    · rw [← pOf_map h2]
      exact s2.perm.map _
    · rw [List.pairwise_map]
      refine List.Pairwise.imp ?_ s1
      intro a b hab
      have z := SrtO.lexB_no.mp hab
      unfold lexLe
      omega
    · have h3 : TupsAt H (ys.map adr) (((ys.map adr).map V.ref).map (pOf H)) := tups_of fun t ht => by
        obtain ⟨y, hy, rfl⟩ := List.mem_map.mp ht
        obtain ⟨t, rfl, _, b⟩ := hall y hy
        exact b
      rw [← ey] at h3
      exact h3.up ex
/-! list(range(n)), l.pop(i), l.clear(), slices -/
def jLstR (ta : TE) : TE := fun σ H Q => ta σ H fun x H1 => ∃ n : Nat, x = .int n ∧ n ≤ 10000 ∧ ∀ q H2, H1 q = none → Ex H1 H2 → LsI H2 q ((List.range n).map fun (i : Nat) => (i : Int)) → Q (.ref q) H2
@[simp] theorem j_lstR {ta : TE} {σ : L2.St} {H : Hp} {Q : VK} : jLstR ta σ H Q = ta σ H fun x H1 => ∃ n : Nat, x = .int n ∧ n ≤ 10000 ∧ ∀ q H2, H1 q = none → Ex H1 H2 → LsI H2 q ((List.range n).map fun (i : Nat) => (i : Int)) → Q (.ref q) H2 := rfl
theorem pe_lstR {e : Expr} {ta : TE} {p pos p2 pos2 : Pos} (hc : X.calm = true) (hg : Gl X "list") (hm : X.mg "list" = none) (hg2 : Gl X "range") (hm2 : X.mg "range" = none) (he : PE X e ta) (na : starEach [e] X.env = (false, eval e X.env) :: starEach [] X.env := by rfl)
    (nb : starEach [.Call (.Name "range" p2) [e] [] pos2] X.env = (false, eval (.Call (.Name "range" p2) [e] [] pos2) X.env) :: starEach [] X.env := by rfl) : PE X (.Call (.Name "list" p) [.Call (.Name "range" p2) [e] [] pos2] [] pos) (jLstR ta) :=
  (pe_listRg hc hg hm (prg_1 hg2 hm2 he.cl na) nb).by fun σ H Q q => ⟨_, q, fun x H1 ⟨n, e, hn, k⟩ => by
    refine ⟨n, e, RgOk.of_le (by omega) (by omega) (by omega) (by omega), fun z hz => k z _ hz (Ex.new hz) ?_⟩
    unfold LsI
    rw [upd_same]
    unfold rgV
    rw [List.map_map, show ((n : Int) - 0).toNat = n by omega]
    congr 2
    refine List.map_congr_left fun i _ => ?_
    show V.int (0 + (i : Int)) = V.int i
    rw [Int.zero_add]⟩
def jPopA : V → List V → Hp → VK → Prop := fun x vs H Q => ∃ l i xs y, x = .ref l ∧ vs = [.int i] ∧ H l = some (.lst xs) ∧ 0 ≤ i ∧ xs[i.toNat]? = some y ∧ xs.length ≤ 100000 ∧ Q y (L2.upd H l (.lst (xs.eraseIdx i.toNat)))
@[simp] theorem j_popA {l : Addr} {i : Int} {H : Hp} {Q : VK} : jPopA (.ref l) [.int i] H Q = ∃ xs y, H l = some (.lst xs) ∧ 0 ≤ i ∧ xs[i.toNat]? = some y ∧ xs.length ≤ 100000 ∧ Q y (L2.upd H l (.lst (xs.eraseIdx i.toNat))) := by simp [jPopA]
theorem mt_popA : MtM X "list.pop" jPopA := fun pins s σ H x vs v us Q I rx rv ⟨l, i, xs, y, e1, e2, h, h0, hy, hl, q⟩ => mt_popAt pins s σ H x vs v us Q I rx rv (by
  have hlt : i.toNat < xs.length := (List.getElem?_eq_some_iff.mp hy).1
  have hi : i < (xs.length : Int) := by omega
  refine ⟨l, xs, i, i.toNat, y, e1, e2, h, by omega, by omega, ?_, hy, q⟩
  simp [seqIndex?, show ¬ i < 0 by omega, h0, hi])
@[simp] theorem j_clear {l : Addr} {H : Hp} {Q : VK} : rClear (.ref l) [] H Q = ∃ xs, H l = some (.lst xs) ∧ Q .non (L2.upd H l (.lst [])) := by simp [rClear]
def loN : Option Int → Nat
  | some i => i.toNat
  | none => 0
def hiT (xs : List V) : Option Int → List V
  | some i => xs.take i.toNat
  | none => xs
@[simp] theorem loN_some (i : Int) : loN (some i) = i.toNat := rfl
@[simp] theorem loN_none : loN none = 0 := rfl
@[simp] theorem hiT_some (xs : List V) (i : Int) : hiT xs (some i) = xs.take i.toNat := rfl
@[simp] theorem hiT_none (xs : List V) : hiT xs none = xs := rfl
/-- xs[lo:hi], its bounds whole numbers from 0 on or none -/
def jSlL : V → Option Int → Option Int → Hp → VK → Prop := fun x lo hi H Q => ∃ a xs, x = .ref a ∧ H a = some (.lst xs) ∧ (∀ i, lo = some i → 0 ≤ i) ∧ (∀ i, hi = some i → 0 ≤ i) ∧
  ∀ p H2, H p = none → Ex H H2 → H2 p = some (.lst ((hiT xs hi).drop (loN lo))) → Q (.ref p) H2
@[simp] theorem j_slL {a : Addr} {lo hi : Option Int} {H : Hp} {Q : VK} : jSlL (.ref a) lo hi H Q = ∃ xs, H a = some (.lst xs) ∧ (∀ i, lo = some i → 0 ≤ i) ∧ (∀ i, hi = some i → 0 ≤ i) ∧
  ∀ p H2, H p = none → Ex H H2 → H2 p = some (.lst ((hiT xs hi).drop (loN lo))) → Q (.ref p) H2 := by simp [jSlL]
theorem cut_eq (xs : List V) (lo hi : Option Int) (h1 : ∀ i, lo = some i → 0 ≤ i) (h2 : ∀ i, hi = some i → 0 ≤ i) : cutV xs lo hi = (hiT xs hi).drop (loN lo) := by
  unfold cutV HT.sIx
  cases lo with
  | none =>
    cases hi with
    | none => simp
    | some j =>
      have := h2 j rfl
      simp only
      rw [if_neg (by omega)]
      simp
  | some i =>
    have a := h1 i rfl
    cases hi with
    | none =>
      simp only [loN_some, hiT_none]
      rw [if_neg (by omega)]
      by_cases h : i.toNat ≤ xs.length
      · rw [Nat.min_eq_left h, ← List.length_drop, List.take_length]
      · rw [Nat.min_eq_right (by omega), Nat.sub_self, List.take_zero, List.drop_eq_nil_of_le (by omega)]
    | some j =>
      have b := h2 j rfl
      simp only [loN_some, hiT_some]
      rw [if_neg (by omega), if_neg (by omega)]
      by_cases h : i.toNat ≤ xs.length
      · rw [Nat.min_eq_left h, List.drop_take]
        by_cases g : j.toNat ≤ xs.length
        · rw [Nat.min_eq_left g]
        · rw [Nat.min_eq_right (by omega), List.take_of_length_le (by rw [List.length_drop]; exact Nat.le_refl _), List.take_of_length_le (by rw [List.length_drop]; omega)]
      · rw [show min i.toNat xs.length = xs.length by omega, List.drop_eq_nil_of_le (Nat.le_refl _), List.take_nil, List.drop_eq_nil_of_le]
        rw [List.length_take]; omega
theorem sl_lstJ : SlR X jSlL := fun pins s σ H x v vl vu lo hi sl Q I rx hs pl pu ⟨a, xs, e, h, h1, h2, k⟩ => sl_list pins s σ H x v vl vu lo hi sl Q I rx hs pl pu ⟨a, xs, e, .inl (.inl h), fun p hp => by
  have z := k p (L2.upd H p (.lst (cutV xs lo hi))) hp (Ex.new hp) (by rw [upd_same, cut_eq xs lo hi h1 h2])
  exact z⟩
def jSlice (te : TE) (tl th : TO) : TE := tSl jSlL te tl th
@[simp] theorem j_slice {te : TE} {tl th : TO} {σ : L2.St} {H : Hp} {Q : VK} : tSl jSlL te tl th σ H Q = te σ H fun x H1 => tl σ H1 fun l H2 => th σ H2 fun u H3 => jSlL x l u H3 Q := rfl
@[simp] theorem j_noPart {σ : L2.St} {H : Hp} {Q : Option Int → Hp → Prop} : tNoPart σ H Q = Q none H := rfl
@[simp] theorem j_part {t : TE} {σ : L2.St} {H : Hp} {Q : Option Int → Hp → Prop} : tPart t σ H Q = t σ H fun x H1 => ∃ i, x = .int i ∧ Q (some i) H1 := rfl
end
theorem _root_.L2.Room.u65 {A : Around} {k : Nat} (hr : Room k A) : A.units + 65 < cLine := by have := hr.un; omega
end Jk

namespace Jk
open PySem PySem.Spec PyProof.Rows L2 Evl
/-! ## len(set(xs)), xs a list of ints, some of them alike perhaps -/
theorem met_len (f : Nat → Int) : ∀ n : Nat, (PyProof.Rows.firstMet f n).length ≤ n ∧ (¬ ((List.range n).map f).Nodup → (PyProof.Rows.firstMet f n).length < n) ∧ (((List.range n).map f).Nodup → (PyProof.Rows.firstMet f n).length = n)
  | 0 => ⟨Nat.le_refl _, fun h => absurd List.nodup_nil h, fun _ => rfl⟩
  | n + 1 => by
    obtain ⟨i1, i2, i3⟩ := met_len f n
    have hd : ((List.range (n + 1)).map f).Nodup ↔ ((List.range n).map f).Nodup ∧ ¬ f n ∈ (List.range n).map f := by
      rw [List.range_succ, List.map_append]
      show ((List.range n).map f ++ [f n]).Nodup ↔ _
      rw [List.nodup_append]
      constructor
      · rintro ⟨a, _, c⟩
        exact ⟨a, fun z => c _ z _ (by simp) rfl⟩
      · rintro ⟨a, b⟩
        exact ⟨a, by simp, fun x hx y hy e => b (by simp at hy; rw [← hy, ← e]; exact hx)⟩
    have ha : (PyProof.Rows.firstMet f n).any (· == f n) = decide (f n ∈ (List.range n).map f) := by
      rw [PyProof.Rows.firstMet_any]
      rw [Bool.eq_iff_iff]
      rw [List.any_eq_true, decide_eq_true_iff]
      constructor
      · rintro ⟨x, hx, e⟩
        rw [← eq_of_beq e]; exact hx
      · exact fun h => ⟨_, h, beq_self_eq_true _⟩
    rw [PyProof.Rows.firstMet_succ]
    unfold PyProof.Rows.step_dedup
    rw [ha]
    by_cases hm : f n ∈ (List.range n).map f
    · rw [if_pos (decide_eq_true hm)]
      exact ⟨by omega, fun _ => by omega, fun z => absurd hm (hd.mp z).2⟩
    · rw [if_neg (by simp only [decide_eq_true_eq]; exact hm), List.length_append]
      refine ⟨by simp; omega, fun z => ?_, fun z => ?_⟩
      · have : ¬ ((List.range n).map f).Nodup := fun y => z (hd.mpr ⟨y, hm⟩)
        have := i2 this
        simp; omega
      · have := i3 (hd.mp z).1
        simp; omega
theorem met_list (ns : List Int) : (List.range ns.length).map (fun i => ns.getD i 0) = ns := by
  refine List.ext_getElem (by simp) fun i h1 h2 => ?_
  rw [List.getElem_map, List.getElem_range, List.getD_eq_getElem?_getD, List.getElem?_eq_getElem h2]
  rfl
def jLenSet (ta : TE) : TE := fun σ H Q => ta σ H fun x H1 => ∃ (l : Addr), x = .ref l ∧ ∃ (ns : List Int), LsI H1 l ns ∧ ns.length ≤ 1000 ∧ ∀ m : Nat, (m = ns.length ↔ ns.Nodup) → Q (.int m) H1
@[simp] theorem j_lenSet {ta : TE} {σ : L2.St} {H : Hp} {Q : VK} : jLenSet ta σ H Q = ta σ H fun x H1 => ∃ (l : Addr), x = .ref l ∧ ∃ (ns : List Int), LsI H1 l ns ∧ ns.length ≤ 1000 ∧ ∀ m : Nat, (m = ns.length ↔ ns.Nodup) → Q (.int m) H1 := rfl
theorem pe_lenSetJ {X : Cx} {a : Expr} {ta : TE} {p p2 pos pos2 : Pos} (hc : X.calm = true) (g1 : Gl X "len") (m1 : X.mg "len" = none) (g2 : Gl X "set") (m2 : X.mg "set" = none) (ha : PE X a ta)
    (na : starEach [a] X.env = (false, eval a X.env) :: starEach [] X.env := by rfl) : PE X (.Call (.Name "len" p) [.Call (.Name "set" p2) [a] [] pos2] [] pos) (jLenSet ta) := by
  refine ⟨fun pins s σ H Q I h => Call_ (ld_blt I g1 m1 PySem.boot_len (PyProof.Rows.callWith_builtin1 (PyProof.Rows.args_cons (Call_ (ld_blt I g2 m2 PyProof.Rows.boot_set ?_)) rfl) rfl rfl))⟩
  refine PyProof.Rows.callWith_type1 (PyProof.Rows.args_cons (thn (ha.run pins s σ H _ I h) ?_) na) na rfl
  rintro v s1 ⟨x, H1, I1, r1, l, rfl, ns, hq, hlen, q1⟩
  refine PyProof.Rows.args_nil ?_
  cases r1
  obtain ⟨its, r, pl, hz⟩ := I1.list (.inl (.inl hq))
  have en : its.toArray.size = ns.length := by simpa using r.length.symm
  refine call_set_list (I1.ok.hd hc) pl.isList (ns := ns) (by simpa using r.ints) (by unfold scanBound; omega) fun h2 tk hS hk => PyProof.Rows.args_nil ?_
  rw [en] at hS
  obtain ⟨o, es, ep, t, ho, hex, hd, _, _, _, hf, hn⟩ := hS
  obtain ⟨k1, k2, k3⟩ := met_len (fun i => ns.getD i 0) ns.length
  rw [met_list] at k2 k3
  have J : Inv X pins σ H1 { s1 with heap := h2, toks := tk } := I1.kept fun b o e => hk b o (Heap.lt_size e) e
  refine call_len_set ho hex hd hf (by rw [hn]; omega) ⟨.int (PyProof.Rows.firstMet (fun i => ns.getD i 0) ns.length).length, H1, J.tok _, ⟨_, by rw [hn]⟩, q1 _ ⟨fun e => ?_, k3⟩⟩
  by_cases hh : ns.Nodup
  · exact hh
  · have := k2 hh; omega
theorem erase_perm {α : Type} : ∀ (l : List α) (i : Nat) (x : α), l[i]? = some x → (x :: l.eraseIdx i).Perm l
  | [], i, x, h => by simp at h
  | a :: l, 0, x, h => by
    simp at h
    subst h
    exact List.Perm.refl _
  | a :: l, i + 1, x, h => (List.Perm.swap a x _).trans ((erase_perm l i x (by simpa using h)).cons a)
/-! isinstance(x, C), x an object made by C -/
structure IsC (K : PySem.W.Frag) (C : Addr) : Prop where
  ha : PySem.W.findIn K (.ref C) "__class__" = some (some (.builtin "object.__class__"))
  hn : PySem.W.specialIn K (.builtin "object.__class__") "__get__" = some (some (.builtin "getset_descriptor.__get__"))
  ht : PySem.W.takesIn K (.builtin "object.__class__") = some true
  hm : PySem.W.mroIn K C (.type "object") = some true
def jIsC (K : PySem.W.Frag) : List V → Hp → VK → Prop := fun xs H Q => ∃ a C, xs = [.ref a, .ref C] ∧ (∃ dx fs, H a = some (.ins C dx fs)) ∧ Cls K C ∧ IsC K C ∧ Q (.bl true) H
@[simp] theorem j_isC {K : PySem.W.Frag} {a C : Addr} {H : Hp} {Q : VK} : jIsC K [.ref a, .ref C] H Q = ((∃ dx fs, H a = some (.ins C dx fs)) ∧ Cls K C ∧ IsC K C ∧ Q (.bl true) H) := propext ⟨fun ⟨_, _, e, r⟩ => by cases e; exact r, fun r => ⟨_, _, rfl, r⟩⟩
theorem call_isC {X : Cx} {K0 : PySem.W.Frag} (hK : X.K = K0 := by rfl) : CallR X (.builtin "isinstance") (jIsC K0) := by
  subst hK
  exact callBy call_isi fun xs H Q ⟨a, C, e, ⟨dx, fs, h⟩, cl, ic, q⟩ => ⟨.ref a, .ref C, .ref C, .ref C, true, e, .own C, .base (.ins h cl ic.ha ic.hn ic.ht ic.hm), if_pos (beq_self_eq_true _), q⟩
@[simp] theorem j_callS {sp : Sp} {E : L2.St → XK} {tr : TA} {σ : L2.St} {H : Hp} {Q : VK} : tCallS sp E tr σ H Q = tr σ H fun vs H1 => sp vs H1 Q (E σ) := rfl
@[simp] theorem j_cat {l b : Addr} {H : Hp} {Q : VK} : jCat (.ref l) (.ref b) H Q = ∃ xs, H l = some (.lst xs) ∧ ∃ zs, H b = some (.lst zs) ∧ xs.length + zs.length ≤ 100000 ∧ ∀ p H2, H p = none → Ex H H2 → H2 p = some (.lst (xs ++ zs)) → Q (.ref p) H2 := by
  unfold jCat
  refine propext ⟨fun ⟨l', b', xs, zs, e1, e2, h1, h2, h3, k⟩ => ?_, fun ⟨xs, h1, zs, h2, h3, k⟩ => ⟨l, b, xs, zs, rfl, rfl, h1, h2, h3, k⟩⟩
  cases e1
  cases e2
  exact ⟨xs, h1, zs, h2, h3, k⟩
def jTupL : List V → Hp → VK → Prop := fun vs H Q => ∃ p, vs = [.ref p] ∧ ∃ xs, H p = some (.lst xs) ∧ ∀ l H2, H l = none → Ex H H2 → H2 l = some (.tup xs) → Q (.ref l) H2
@[simp] theorem j_tupL {p : Addr} {H : Hp} {Q : VK} : jTupL [.ref p] H Q = ∃ xs, H p = some (.lst xs) ∧ ∀ l H2, H l = none → Ex H H2 → H2 l = some (.tup xs) → Q (.ref l) H2 := by simp [jTupL]
theorem call_tupJ {X : Cx} : CallR X (.type "tuple") jTupL := callBy call_tuple_of fun vs H Q ⟨p, e, xs, h, q⟩ => ⟨p, xs, e, .inl ⟨.inl (.inl h), fun l hl => q l _ hl (Ex.new hl) upd_same⟩⟩
@[simp] theorem j_list {p : Addr} {H : Hp} {Q : VK} {xs : List V} : (jList [.ref p] H Q ∧ H p = some (.lst xs)) = ((∀ l H2, H l = none → Ex H H2 → H2 l = some (.lst xs) → Q (.ref l) H2) ∧ H p = some (.lst xs)) := by
  unfold jList
  refine propext ⟨fun ⟨⟨p', ys, e, h, q⟩, h'⟩ => ?_, fun ⟨q, h'⟩ => ⟨⟨p, xs, rfl, .inl h', q⟩, h'⟩⟩
  cases e
  rcases h with h | h
  · rw [h'] at h
    cases h
    exact ⟨q, h'⟩
  · rw [h'] at h
    cases h
end Jk

namespace Jk
open PySem L2 Evl
def top (i : Nat) : Stmt := PySem.Challenge.pw_joinside_k02_parts_and_opposites.main.body.getD i (.Pass ⟨0, 0, 0, 0⟩)

abbrev s_wall : Stmt := top 0
theorem sc_wall : FnScope ["k"] ["k"] (defScope s_wall) := ⟨rfl, rfl, rfl, by decide +kernel, rfl, by decide +kernel, by decide +kernel⟩

abbrev s_whole_within : Stmt := top 13
theorem sc_whole_within : FnScope ["number", "least", "most"] ["number", "least", "most"] (defScope s_whole_within) := ⟨rfl, rfl, rfl, by decide +kernel, rfl, by decide +kernel, by decide +kernel⟩

abbrev s_unlike_points : Stmt := top 14
theorem sc_unlike_points : FnScope ["points", "many", "point"] ["points", "many"] (defScope s_unlike_points) := ⟨rfl, rfl, rfl, by decide +kernel, rfl, by decide +kernel, by decide +kernel⟩

abbrev s_pairs : Stmt := top 15
theorem sc_pairs : FnScope ["many", "one", "other"] ["many"] (defScope s_pairs) := ⟨rfl, rfl, rfl, by decide +kernel, rfl, by decide +kernel, by decide +kernel⟩

abbrev s_Web_init : Stmt := inClass (top 16) 0
theorem sc_Web_init : FnScope ["self", "many", "point"] ["self", "many"] (defScope s_Web_init) := ⟨rfl, rfl, rfl, by decide +kernel, rfl, by decide +kernel, by decide +kernel⟩

abbrev s_Web_many : Stmt := inClass (top 16) 1
theorem sc_Web_many : FnScope ["self"] ["self"] (defScope s_Web_many) := ⟨rfl, rfl, rfl, by decide +kernel, rfl, by decide +kernel, by decide +kernel⟩

abbrev s_Web_has : Stmt := inClass (top 16) 2
theorem sc_Web_has : FnScope ["self", "one", "other"] ["self", "one", "other"] (defScope s_Web_has) := ⟨rfl, rfl, rfl, by decide +kernel, rfl, by decide +kernel, by decide +kernel⟩

abbrev s_Web_put : Stmt := inClass (top 16) 3
theorem sc_Web_put : FnScope ["self", "one", "other"] ["self", "one", "other"] (defScope s_Web_put) := ⟨rfl, rfl, rfl, by decide +kernel, rfl, by decide +kernel, by decide +kernel⟩

abbrev s_Web_take : Stmt := inClass (top 16) 4
theorem sc_Web_take : FnScope ["self", "one", "other"] ["self", "one", "other"] (defScope s_Web_take) := ⟨rfl, rfl, rfl, by decide +kernel, rfl, by decide +kernel, by decide +kernel⟩

abbrev s_Web_grow : Stmt := inClass (top 16) 5
theorem sc_Web_grow : FnScope ["self", "number"] ["self"] (defScope s_Web_grow) := ⟨rfl, rfl, rfl, by decide +kernel, rfl, by decide +kernel, by decide +kernel⟩

abbrev s_Web_ties : Stmt := inClass (top 16) 7
theorem sc_Web_ties : FnScope ["self", "one", "other"] ["self"] (defScope s_Web_ties) := ⟨rfl, rfl, rfl, by decide +kernel, rfl, by decide +kernel, by decide +kernel⟩

abbrev s_Web_need_point : Stmt := inClass (top 16) 8
theorem sc_Web_need_point : FnScope ["self", "point"] ["self", "point"] (defScope s_Web_need_point) := ⟨rfl, rfl, rfl, by decide +kernel, rfl, by decide +kernel, by decide +kernel⟩

abbrev s_part : Stmt := top 17
theorem sc_part : FnScope ["web", "points", "found", "one", "other"] ["web", "points"] (defScope s_part) := ⟨rfl, rfl, rfl, by decide +kernel, rfl, by decide +kernel, by decide +kernel⟩

abbrev s_opposite : Stmt := top 18
theorem sc_opposite : FnScope ["web", "found", "one", "other"] ["web"] (defScope s_opposite) := ⟨rfl, rfl, rfl, by decide +kernel, rfl, by decide +kernel, by decide +kernel⟩

abbrev s_l_mixed : Stmt := top 20
theorem sc_l_mixed : FnScope ["_law_cell", "_law_k", "_law_number_here"] ["_law_cell", "_law_k"] (defScope s_l_mixed) := ⟨rfl, rfl, rfl, by decide +kernel, rfl, by decide +kernel, by decide +kernel⟩

abbrev s_l_number : Stmt := top 21
theorem sc_l_number : FnScope ["_law_script", "_law_k", "_law_cell"] ["_law_script", "_law_k"] (defScope s_l_number) := ⟨rfl, rfl, rfl, by decide +kernel, rfl, by decide +kernel, by decide +kernel⟩

abbrev s_l_kind : Stmt := top 22
theorem sc_l_kind : FnScope ["_law_e", "_law_found"] ["_law_e"] (defScope s_l_kind) := ⟨rfl, rfl, rfl, by decide +kernel, rfl, by decide +kernel, by decide +kernel⟩

abbrev s_l_order : Stmt := top 23
theorem sc_l_order : FnScope ["_law_many", "_law_number_here", "_law_left", "_law_found", "_law_k"] ["_law_many", "_law_number_here"] (defScope s_l_order) := ⟨rfl, rfl, rfl, by decide +kernel, rfl, by decide +kernel, by decide +kernel⟩

abbrev s_l_web : Stmt := top 24
theorem sc_l_web : FnScope ["_law_script", "_law_many", "_law_web_here", "_law_ties", "_law_k", "_law_cell", "_law_j", "_law_one", "_law_other", "_law_tie"] ["_law_script", "_law_many"] (defScope s_l_web) := ⟨rfl, rfl, rfl, by decide +kernel, rfl, by decide +kernel, by decide +kernel⟩

abbrev s_l_part : Stmt := top 25
theorem sc_l_part : FnScope ["_law_ties", "_law_points", "_law_found", "_law_at", "_law_before", "_law_pair"] ["_law_ties", "_law_points"] (defScope s_l_part) := ⟨rfl, rfl, rfl, by decide +kernel, rfl, by decide +kernel, by decide +kernel⟩

abbrev s_l_others : Stmt := top 26
theorem sc_l_others : FnScope ["_law_ties", "_law_many", "_law_found", "_law_one", "_law_other"] ["_law_ties", "_law_many"] (defScope s_l_others) := ⟨rfl, rfl, rfl, by decide +kernel, rfl, by decide +kernel, by decide +kernel⟩

abbrev s_l_is : Stmt := top 27
theorem sc_l_is : FnScope ["_law_web_here", "_law_many", "_law_ties"] ["_law_web_here", "_law_many", "_law_ties"] (defScope s_l_is) := ⟨rfl, rfl, rfl, by decide +kernel, rfl, by decide +kernel, by decide +kernel⟩

abbrev s_l_spoilt : Stmt := top 28
theorem sc_l_spoilt : FnScope ["_law_points", "_law_cell", "_law_many", "_law_at", "_law_odd", "_law_some"] ["_law_points", "_law_cell", "_law_many"] (defScope s_l_spoilt) := ⟨rfl, rfl, rfl, by decide +kernel, rfl, by decide +kernel, by decide +kernel⟩

abbrev s_l_refused : Stmt := top 29
theorem sc_l_refused : FnScope ["_law_web_here", "_law_thing", "_law_error", "_law_e"] ["_law_web_here", "_law_thing"] (defScope s_l_refused) := ⟨rfl, rfl, rfl, by decide +kernel, rfl, by decide +kernel, by decide +kernel⟩

abbrev s_law : Stmt := top 30
theorem sc_law : FnScope ["_law_script", "_law_many", "_law_web_here", "_law_ties", "_law_k", "_law_cell", "_law_points", "_law_handed", "_law_found", "_law_due", "_law_inner", "_law_other", "_law_tie"] ["_law_script"] (defScope s_law) := ⟨rfl, rfl, rfl, by decide +kernel, rfl, by decide +kernel, by decide +kernel⟩

structure Adr where
  a_wall : Addr
  d_wall : FuncData
  a_whole_within : Addr
  d_whole_within : FuncData
  a_unlike_points : Addr
  d_unlike_points : FuncData
  a_pairs : Addr
  d_pairs : FuncData
  a_Web_init : Addr
  d_Web_init : FuncData
  a_Web_many : Addr
  d_Web_many : FuncData
  a_Web_has : Addr
  d_Web_has : FuncData
  a_Web_put : Addr
  d_Web_put : FuncData
  a_Web_take : Addr
  d_Web_take : FuncData
  a_Web_grow : Addr
  d_Web_grow : FuncData
  a_Web_ties : Addr
  d_Web_ties : FuncData
  a_Web_need_point : Addr
  d_Web_need_point : FuncData
  a_part : Addr
  d_part : FuncData
  a_opposite : Addr
  d_opposite : FuncData
  a_l_mixed : Addr
  d_l_mixed : FuncData
  a_l_number : Addr
  d_l_number : FuncData
  a_l_kind : Addr
  d_l_kind : FuncData
  a_l_order : Addr
  d_l_order : FuncData
  a_l_web : Addr
  d_l_web : FuncData
  a_l_part : Addr
  d_l_part : FuncData
  a_l_others : Addr
  d_l_others : FuncData
  a_l_is : Addr
  d_l_is : FuncData
  a_l_spoilt : Addr
  d_l_spoilt : FuncData
  a_l_refused : Addr
  d_l_refused : FuncData
  a_law : Addr
  d_law : FuncData
  c_BadPoint : Addr
  c_BadSize : Addr
  c_BadText : Addr
  c_BadTree : Addr
  c_JoinError : Addr
  c_NoTie : Addr
  c_NoTree : Addr
  c_TooMany : Addr
  c_Twice : Addr
  c_Web : Addr

structure Txt (K : PySem.W.Frag) (mg : Str → Option Value) (A : Adr) : Prop where
  g_wall : mg "_wall" = some (.ref A.a_wall)
  k_wall : PySem.W.keepIn K (.ref A.a_wall) = true
  b_wall : L2.Binds K A.d_wall ["k"] []
  F_wall : Fun K "_wall" "_wall" s_wall A.a_wall A.d_wall
  g_whole_within : mg "whole_within" = some (.ref A.a_whole_within)
  k_whole_within : PySem.W.keepIn K (.ref A.a_whole_within) = true
  b_whole_within : L2.Binds K A.d_whole_within ["number", "least", "most"] []
  F_whole_within : Fun K "whole_within" "whole_within" s_whole_within A.a_whole_within A.d_whole_within
  g_unlike_points : mg "unlike_points" = some (.ref A.a_unlike_points)
  k_unlike_points : PySem.W.keepIn K (.ref A.a_unlike_points) = true
  b_unlike_points : L2.Binds K A.d_unlike_points ["points", "many"] []
  F_unlike_points : Fun K "unlike_points" "unlike_points" s_unlike_points A.a_unlike_points A.d_unlike_points
  g_pairs : mg "pairs" = some (.ref A.a_pairs)
  k_pairs : PySem.W.keepIn K (.ref A.a_pairs) = true
  b_pairs : L2.Binds K A.d_pairs ["many"] []
  F_pairs : Fun K "pairs" "pairs" s_pairs A.a_pairs A.d_pairs
  b_Web_init : L2.Binds K A.d_Web_init ["self", "many"] []
  F_Web_init : Fun K "__init__" "Web.__init__" s_Web_init A.a_Web_init A.d_Web_init
  m_Web_many : Meth K A.c_Web "many" A.a_Web_many
  b_Web_many : L2.Binds K A.d_Web_many ["self"] []
  F_Web_many : Fun K "many" "Web.many" s_Web_many A.a_Web_many A.d_Web_many
  m_Web_has : Meth K A.c_Web "has" A.a_Web_has
  b_Web_has : L2.Binds K A.d_Web_has ["self", "one", "other"] []
  F_Web_has : Fun K "has" "Web.has" s_Web_has A.a_Web_has A.d_Web_has
  m_Web_put : Meth K A.c_Web "put" A.a_Web_put
  b_Web_put : L2.Binds K A.d_Web_put ["self", "one", "other"] []
  F_Web_put : Fun K "put" "Web.put" s_Web_put A.a_Web_put A.d_Web_put
  m_Web_take : Meth K A.c_Web "take" A.a_Web_take
  b_Web_take : L2.Binds K A.d_Web_take ["self", "one", "other"] []
  F_Web_take : Fun K "take" "Web.take" s_Web_take A.a_Web_take A.d_Web_take
  m_Web_grow : Meth K A.c_Web "grow" A.a_Web_grow
  b_Web_grow : L2.Binds K A.d_Web_grow ["self"] []
  F_Web_grow : Fun K "grow" "Web.grow" s_Web_grow A.a_Web_grow A.d_Web_grow
  m_Web_ties : Meth K A.c_Web "ties" A.a_Web_ties
  b_Web_ties : L2.Binds K A.d_Web_ties ["self"] []
  F_Web_ties : Fun K "ties" "Web.ties" s_Web_ties A.a_Web_ties A.d_Web_ties
  m_Web_need_point : Meth K A.c_Web "_need_point" A.a_Web_need_point
  b_Web_need_point : L2.Binds K A.d_Web_need_point ["self", "point"] []
  F_Web_need_point : Fun K "_need_point" "Web._need_point" s_Web_need_point A.a_Web_need_point A.d_Web_need_point
  g_part : mg "part" = some (.ref A.a_part)
  k_part : PySem.W.keepIn K (.ref A.a_part) = true
  b_part : L2.Binds K A.d_part ["web", "points"] []
  F_part : Fun K "part" "part" s_part A.a_part A.d_part
  g_opposite : mg "opposite" = some (.ref A.a_opposite)
  k_opposite : PySem.W.keepIn K (.ref A.a_opposite) = true
  b_opposite : L2.Binds K A.d_opposite ["web"] []
  F_opposite : Fun K "opposite" "opposite" s_opposite A.a_opposite A.d_opposite
  g_l_mixed : mg "_law_mixed" = some (.ref A.a_l_mixed)
  k_l_mixed : PySem.W.keepIn K (.ref A.a_l_mixed) = true
  b_l_mixed : L2.Binds K A.d_l_mixed ["_law_cell", "_law_k"] []
  F_l_mixed : Fun K "_law_mixed" "_law_mixed" s_l_mixed A.a_l_mixed A.d_l_mixed
  g_l_number : mg "_law_number" = some (.ref A.a_l_number)
  k_l_number : PySem.W.keepIn K (.ref A.a_l_number) = true
  b_l_number : L2.Binds K A.d_l_number ["_law_script", "_law_k"] []
  F_l_number : Fun K "_law_number" "_law_number" s_l_number A.a_l_number A.d_l_number
  g_l_kind : mg "_law_kind" = some (.ref A.a_l_kind)
  k_l_kind : PySem.W.keepIn K (.ref A.a_l_kind) = true
  b_l_kind : L2.Binds K A.d_l_kind ["_law_e"] []
  F_l_kind : Fun K "_law_kind" "_law_kind" s_l_kind A.a_l_kind A.d_l_kind
  g_l_order : mg "_law_order" = some (.ref A.a_l_order)
  k_l_order : PySem.W.keepIn K (.ref A.a_l_order) = true
  b_l_order : L2.Binds K A.d_l_order ["_law_many", "_law_number_here"] []
  F_l_order : Fun K "_law_order" "_law_order" s_l_order A.a_l_order A.d_l_order
  g_l_web : mg "_law_web" = some (.ref A.a_l_web)
  k_l_web : PySem.W.keepIn K (.ref A.a_l_web) = true
  b_l_web : L2.Binds K A.d_l_web ["_law_script", "_law_many"] []
  F_l_web : Fun K "_law_web" "_law_web" s_l_web A.a_l_web A.d_l_web
  g_l_part : mg "_law_part" = some (.ref A.a_l_part)
  k_l_part : PySem.W.keepIn K (.ref A.a_l_part) = true
  b_l_part : L2.Binds K A.d_l_part ["_law_ties", "_law_points"] []
  F_l_part : Fun K "_law_part" "_law_part" s_l_part A.a_l_part A.d_l_part
  g_l_others : mg "_law_others" = some (.ref A.a_l_others)
  k_l_others : PySem.W.keepIn K (.ref A.a_l_others) = true
  b_l_others : L2.Binds K A.d_l_others ["_law_ties", "_law_many"] []
  F_l_others : Fun K "_law_others" "_law_others" s_l_others A.a_l_others A.d_l_others
  g_l_is : mg "_law_is" = some (.ref A.a_l_is)
  k_l_is : PySem.W.keepIn K (.ref A.a_l_is) = true
  b_l_is : L2.Binds K A.d_l_is ["_law_web_here", "_law_many", "_law_ties"] []
  F_l_is : Fun K "_law_is" "_law_is" s_l_is A.a_l_is A.d_l_is
  g_l_spoilt : mg "_law_spoilt" = some (.ref A.a_l_spoilt)
  k_l_spoilt : PySem.W.keepIn K (.ref A.a_l_spoilt) = true
  b_l_spoilt : L2.Binds K A.d_l_spoilt ["_law_points", "_law_cell", "_law_many"] []
  F_l_spoilt : Fun K "_law_spoilt" "_law_spoilt" s_l_spoilt A.a_l_spoilt A.d_l_spoilt
  g_l_refused : mg "_law_refused" = some (.ref A.a_l_refused)
  k_l_refused : PySem.W.keepIn K (.ref A.a_l_refused) = true
  b_l_refused : L2.Binds K A.d_l_refused ["_law_web_here", "_law_thing"] []
  F_l_refused : Fun K "_law_refused" "_law_refused" s_l_refused A.a_l_refused A.d_l_refused
  g_law : mg "law" = some (.ref A.a_law)
  k_law : PySem.W.keepIn K (.ref A.a_law) = true
  b_law : L2.Binds K A.d_law ["_law_script"] []
  F_law : Fun K "law" "law" s_law A.a_law A.d_law
  cl_Web : Cls K A.c_Web
  mk_Web : Mk K A.c_Web A.a_Web_init
  n_Web__near : NoAttr K A.c_Web "_near"
  gBadPoint : mg "BadPoint" = some (.ref A.c_BadPoint)
  gBadSize : mg "BadSize" = some (.ref A.c_BadSize)
  gBadText : mg "BadText" = some (.ref A.c_BadText)
  gBadTree : mg "BadTree" = some (.ref A.c_BadTree)
  gJoinError : mg "JoinError" = some (.ref A.c_JoinError)
  gNoTie : mg "NoTie" = some (.ref A.c_NoTie)
  gNoTree : mg "NoTree" = some (.ref A.c_NoTree)
  gTooMany : mg "TooMany" = some (.ref A.c_TooMany)
  gTwice : mg "Twice" = some (.ref A.c_Twice)
  gWeb : mg "Web" = some (.ref A.c_Web)
  xBadSize : PySem.W.excIn K A.c_BadSize [.type "ValueError", .type "Exception", .type "BaseException", .type "object"] "ValueError.__new__" = true
  kBadSize : PySem.W.keepIn K (.ref A.c_BadSize) = true
  bBadSize : PySem.W.subIn K (.ref A.c_BadSize) (.type "BaseException") = some true
  tBadSize : PySem.W.typeIn K (.ref A.c_BadSize) = some (.type "type")
  xBadPoint : PySem.W.excIn K A.c_BadPoint [.type "ValueError", .type "Exception", .type "BaseException", .type "object"] "ValueError.__new__" = true
  kBadPoint : PySem.W.keepIn K (.ref A.c_BadPoint) = true
  bBadPoint : PySem.W.subIn K (.ref A.c_BadPoint) (.type "BaseException") = some true
  tBadPoint : PySem.W.typeIn K (.ref A.c_BadPoint) = some (.type "type")
  xTwice : PySem.W.excIn K A.c_Twice [.type "ValueError", .type "Exception", .type "BaseException", .type "object"] "ValueError.__new__" = true
  kTwice : PySem.W.keepIn K (.ref A.c_Twice) = true
  bTwice : PySem.W.subIn K (.ref A.c_Twice) (.type "BaseException") = some true
  tTwice : PySem.W.typeIn K (.ref A.c_Twice) = some (.type "type")
  xNoTie : PySem.W.excIn K A.c_NoTie [.type "ValueError", .type "Exception", .type "BaseException", .type "object"] "ValueError.__new__" = true
  kNoTie : PySem.W.keepIn K (.ref A.c_NoTie) = true
  bNoTie : PySem.W.subIn K (.ref A.c_NoTie) (.type "BaseException") = some true
  tNoTie : PySem.W.typeIn K (.ref A.c_NoTie) = some (.type "type")
  xTooMany : PySem.W.excIn K A.c_TooMany [.type "ValueError", .type "Exception", .type "BaseException", .type "object"] "ValueError.__new__" = true
  kTooMany : PySem.W.keepIn K (.ref A.c_TooMany) = true
  bTooMany : PySem.W.subIn K (.ref A.c_TooMany) (.type "BaseException") = some true
  tTooMany : PySem.W.typeIn K (.ref A.c_TooMany) = some (.type "type")
  hb_JoinError : PySem.W.subIn K (.ref A.c_JoinError) (.type "BaseException") = some true
  hd_JoinError : PySem.W.hasDictIn K A.c_JoinError = true
  ht_JoinError : PySem.W.typeIn K (.ref A.c_JoinError) = some (.type "type")
  su_BadSize_JoinError : PySem.W.subIn K (.ref A.c_BadSize) (.ref A.c_JoinError) = some true
  su_BadPoint_JoinError : PySem.W.subIn K (.ref A.c_BadPoint) (.ref A.c_JoinError) = some true
  su_Twice_JoinError : PySem.W.subIn K (.ref A.c_Twice) (.ref A.c_JoinError) = some true
  su_NoTie_JoinError : PySem.W.subIn K (.ref A.c_NoTie) (.ref A.c_JoinError) = some true
  su_TooMany_JoinError : PySem.W.subIn K (.ref A.c_TooMany) (.ref A.c_JoinError) = some true
  ec_BadSize : ExcC K A.c_BadSize
  is_BadSize_BadSize : PySem.W.kitOne K (.ref A.c_BadSize) (.ref A.c_BadSize) = some true
  is_BadSize_BadPoint : PySem.W.kitOne K (.ref A.c_BadSize) (.ref A.c_BadPoint) = some false
  is_BadSize_Twice : PySem.W.kitOne K (.ref A.c_BadSize) (.ref A.c_Twice) = some false
  is_BadSize_NoTie : PySem.W.kitOne K (.ref A.c_BadSize) (.ref A.c_NoTie) = some false
  is_BadSize_TooMany : PySem.W.kitOne K (.ref A.c_BadSize) (.ref A.c_TooMany) = some false
  is_BadSize_NoTree : PySem.W.kitOne K (.ref A.c_BadSize) (.ref A.c_NoTree) = some false
  is_BadSize_BadTree : PySem.W.kitOne K (.ref A.c_BadSize) (.ref A.c_BadTree) = some false
  is_BadSize_BadText : PySem.W.kitOne K (.ref A.c_BadSize) (.ref A.c_BadText) = some false
  is_BadSize_ValueError : PySem.W.kitOne K (.ref A.c_BadSize) (.type "ValueError") = some true
  ec_BadPoint : ExcC K A.c_BadPoint
  is_BadPoint_BadSize : PySem.W.kitOne K (.ref A.c_BadPoint) (.ref A.c_BadSize) = some false
  is_BadPoint_BadPoint : PySem.W.kitOne K (.ref A.c_BadPoint) (.ref A.c_BadPoint) = some true
  is_BadPoint_Twice : PySem.W.kitOne K (.ref A.c_BadPoint) (.ref A.c_Twice) = some false
  is_BadPoint_NoTie : PySem.W.kitOne K (.ref A.c_BadPoint) (.ref A.c_NoTie) = some false
  is_BadPoint_TooMany : PySem.W.kitOne K (.ref A.c_BadPoint) (.ref A.c_TooMany) = some false
  is_BadPoint_NoTree : PySem.W.kitOne K (.ref A.c_BadPoint) (.ref A.c_NoTree) = some false
  is_BadPoint_BadTree : PySem.W.kitOne K (.ref A.c_BadPoint) (.ref A.c_BadTree) = some false
  is_BadPoint_BadText : PySem.W.kitOne K (.ref A.c_BadPoint) (.ref A.c_BadText) = some false
  is_BadPoint_ValueError : PySem.W.kitOne K (.ref A.c_BadPoint) (.type "ValueError") = some true
  ec_Twice : ExcC K A.c_Twice
  is_Twice_BadSize : PySem.W.kitOne K (.ref A.c_Twice) (.ref A.c_BadSize) = some false
  is_Twice_BadPoint : PySem.W.kitOne K (.ref A.c_Twice) (.ref A.c_BadPoint) = some false
  is_Twice_Twice : PySem.W.kitOne K (.ref A.c_Twice) (.ref A.c_Twice) = some true
  is_Twice_NoTie : PySem.W.kitOne K (.ref A.c_Twice) (.ref A.c_NoTie) = some false
  is_Twice_TooMany : PySem.W.kitOne K (.ref A.c_Twice) (.ref A.c_TooMany) = some false
  is_Twice_NoTree : PySem.W.kitOne K (.ref A.c_Twice) (.ref A.c_NoTree) = some false
  is_Twice_BadTree : PySem.W.kitOne K (.ref A.c_Twice) (.ref A.c_BadTree) = some false
  is_Twice_BadText : PySem.W.kitOne K (.ref A.c_Twice) (.ref A.c_BadText) = some false
  is_Twice_ValueError : PySem.W.kitOne K (.ref A.c_Twice) (.type "ValueError") = some true
  ec_NoTie : ExcC K A.c_NoTie
  is_NoTie_BadSize : PySem.W.kitOne K (.ref A.c_NoTie) (.ref A.c_BadSize) = some false
  is_NoTie_BadPoint : PySem.W.kitOne K (.ref A.c_NoTie) (.ref A.c_BadPoint) = some false
  is_NoTie_Twice : PySem.W.kitOne K (.ref A.c_NoTie) (.ref A.c_Twice) = some false
  is_NoTie_NoTie : PySem.W.kitOne K (.ref A.c_NoTie) (.ref A.c_NoTie) = some true
  is_NoTie_TooMany : PySem.W.kitOne K (.ref A.c_NoTie) (.ref A.c_TooMany) = some false
  is_NoTie_NoTree : PySem.W.kitOne K (.ref A.c_NoTie) (.ref A.c_NoTree) = some false
  is_NoTie_BadTree : PySem.W.kitOne K (.ref A.c_NoTie) (.ref A.c_BadTree) = some false
  is_NoTie_BadText : PySem.W.kitOne K (.ref A.c_NoTie) (.ref A.c_BadText) = some false
  is_NoTie_ValueError : PySem.W.kitOne K (.ref A.c_NoTie) (.type "ValueError") = some true
  ec_TooMany : ExcC K A.c_TooMany
  is_TooMany_BadSize : PySem.W.kitOne K (.ref A.c_TooMany) (.ref A.c_BadSize) = some false
  is_TooMany_BadPoint : PySem.W.kitOne K (.ref A.c_TooMany) (.ref A.c_BadPoint) = some false
  is_TooMany_Twice : PySem.W.kitOne K (.ref A.c_TooMany) (.ref A.c_Twice) = some false
  is_TooMany_NoTie : PySem.W.kitOne K (.ref A.c_TooMany) (.ref A.c_NoTie) = some false
  is_TooMany_TooMany : PySem.W.kitOne K (.ref A.c_TooMany) (.ref A.c_TooMany) = some true
  is_TooMany_NoTree : PySem.W.kitOne K (.ref A.c_TooMany) (.ref A.c_NoTree) = some false
  is_TooMany_BadTree : PySem.W.kitOne K (.ref A.c_TooMany) (.ref A.c_BadTree) = some false
  is_TooMany_BadText : PySem.W.kitOne K (.ref A.c_TooMany) (.ref A.c_BadText) = some false
  is_TooMany_ValueError : PySem.W.kitOne K (.ref A.c_TooMany) (.type "ValueError") = some true
  isa_Web : IsC K A.c_Web
  ValueError : mg "ValueError" = none
  bool : mg "bool" = none
  int : mg "int" = none
  isinstance : mg "isinstance" = none
  len : mg "len" = none
  list : mg "list" = none
  max : mg "max" = none
  min : mg "min" = none
  range : mg "range" = none
  set : mg "set" = none
  sorted : mg "sorted" = none
  tuple : mg "tuple" = none
  cMOST_POINTS : ∃ t, mg "MOST_POINTS" = some (.int (30) t)

end Jk

namespace Jk
open PySem L2 Evl
/-! ## numbers -/
def mixN (c k : Int) : Int := (c % 1000000007 + 7919 * k * k + 31 * k + 17) * 48271 % 2147483647
def mixed (c k : Int) : Int := mixN c k * (mixN c k % 65521 + 16807) % 2147483629 / 4
theorem mixed_nn (c k : Int) : 0 ≤ mixed c k := by unfold mixed; omega
theorem mixed_lt (c k : Int) : mixed c k < 600000000 := by unfold mixed; omega
def spMixed : Sp := fun vs H Q _ => ∃ (c k : Int), vs = [.int c, .int k] ∧ (0 ≤ k ∧ k ≤ 100000) ∧ Q (.int (mixed c k)) H
def cellAt (ns : List Int) (k : Int) : Int := if ns.length = 0 then 0 else ns.getD (k % (ns.length : Int)).toNat 0
def num (ns : List Int) (k : Int) : Int := mixed (cellAt ns k) k
theorem cell_ix {ns : List Int} {k : Int} (h : 0 < ns.length) (hk : 0 ≤ k) : (ns.map V.int)[(k % (ns.length : Int)).toNat]? = some (.int (cellAt ns k)) := by
  have h1 : (k % (ns.length : Int)).toNat < ns.length := by
    have a := Int.emod_lt_of_pos k (show (0 : Int) < ns.length by omega)
    have b := Int.emod_nonneg k (show (ns.length : Int) ≠ 0 by omega)
    omega
  unfold cellAt
  rw [if_neg (by omega), List.getElem?_map, List.getD_eq_getElem?_getD, List.getElem?_eq_getElem h1]
  rfl
def spNumber (K : PySem.W.Frag) : Sp := fun vs H Q _ => ∃ (a : Addr) (ns : List Int) (k : Int), vs = [.ref a, .int k] ∧ SqL K H a (ns.map V.int) ∧ (0 ≤ k ∧ k ≤ 100000) ∧ Q (.int (num ns k)) H
section
variable {P : Program} {w : World} {K : PySem.W.Frag} {mg : Str → Option Value} {base : Heap} {A : Adr}
theorem ok_l_mixed (T : Txt K mg A) : FnOk P w K mg base CX0 1 A.a_l_mixed A.d_l_mixed ["_law_cell", "_law_k"] spMixed := by
  refine T.F_l_mixed.ok sc_l_mixed (fun vs H Q E h => ?_) (fun cdv C outer s H vs Q E hr h => ?_)
  · obtain ⟨c, k, rfl, _⟩ := h
    rfl
  · obtain ⟨c, k, rfl, hk, q⟩ := h
    refine ⟨_, (pss_cons (ps_set (i := 2) sc_l_mixed.nd rfl (Or.inl rfl) (pe_op op_mod (pe_op op_mul (pe_op op_add (pe_op op_add (pe_op op_add (pe_op op_mod (pv 0) pe_int) (pe_op op_mul (pe_op op_mul pe_int (pv 1)) (pv 1))) (pe_op op_mul pe_int (pv 1))) pe_int) pe_int) pe_int))
  (pss_one (ps_ret (pe_op op_fdiv (pe_op op_mod (pe_op op_mul (pv 2) (pe_op op_add (pe_op op_mod (pv 2) pe_int) pe_int)) pe_int) pe_int)))), ?_⟩
    have e : mixN c k = (c % 1000000007 + 7919 * k * k + 31 * k + 17) * 48271 % 2147483647 := rfl
    simp [L2.start, CMul, CDiv, ← e]
    refine ⟨?_, ?_, q⟩ <;> omega
theorem ok_l_number (T : Txt K mg A) : FnOk P w K mg base CX0 2 A.a_l_number A.d_l_number ["_law_script", "_law_k"] (spNumber K) := by
  refine T.F_l_number.ok sc_l_number (fun vs H Q E h => ?_) (fun cdv C outer s H vs Q E hr h => ?_)
  · obtain ⟨a, ns, k, rfl, _⟩ := h
    rfl
  · obtain ⟨a, ns, k, rfl, hS, hk, q⟩ := h
    refine ⟨_, (pss_cons (ps_set (i := 2) sc_l_number.nd rfl (Or.inl rfl) pe_int)
  (pss_cons (ps_if (pt_cmpR op_gt (pe_callB call_len_seq (by rfl) T.len (by decide +kernel) (pa_cons (pv 0) pa_nil)) pe_int (nomark _))
    (pss_one (ps_set (i := 2) sc_l_number.nd rfl (Or.inl rfl) (pe_ix ix_list (pv 0) (pe_op op_mod (pv 1) (pe_callB call_len_seq (by rfl) T.len (by decide +kernel) (pa_cons (pv 0) pa_nil))) (fun _ _ => rfl))))
    pss_nil)
  (pss_one (ps_ret (pe_call (ok_l_mixed T) (hr.mono (by decide)) rfl T.g_l_mixed T.k_l_mixed T.b_l_mixed .nil pass0 (pa_cons (pv 2) (pa_cons (pv 1) pa_nil))))))), ?_⟩
    simp [L2.start]
    refine ⟨_, .inl hS, ?_⟩
    simp [spMixed, hk, and_assoc]
    by_cases hn : ns = []
    · subst hn
      exact .inl ⟨rfl, q⟩
    · have h0 : 0 < ns.length := by cases ns with | nil => exact absurd rfl hn | cons _ _ => simp
      refine .inr ⟨h0, _, .inl hS, by simpa using h0, a, _, _, _, rfl, rfl, hS, at_toNat ?_ ?_, _, rfl, q⟩
      · exact Int.emod_nonneg k (by rw [List.length_map]; omega)
      · rw [List.length_map]
        exact cell_ix h0 hk.1
end
end Jk

namespace Jk
open PySem L2 Evl
/-! ## things -/
inductive Thing (H : Hp) : V → Prop where
  | non : Thing H .non
  | bl (b : Bool) : Thing H (.bl b)
  | int (i : Int) : Thing H (.int i)
  | str (s : Str) : Thing H (.str s)
  | lst {a : Addr} {xs : List V} (h : H a = some (.lst xs)) : Thing H (.ref a)
  | tup {a : Addr} {xs : List V} (h : H a = some (.tup xs)) : Thing H (.ref a)
  | dK {a : Addr} {xs : List (Key × V)} (h : H a = some (.dK xs)) : Thing H (.ref a)
theorem Thing.up {H H' : Hp} {x : V} (t : Thing H x) (e : Ex H H') : Thing H' x := by
  cases t with
  | non => exact .non
  | bl b => exact .bl b
  | int i => exact .int i
  | str s => exact .str s
  | lst h => exact .lst (e _ _ h)
  | tup h => exact .tup (e _ _ h)
  | dK h => exact .dK (e _ _ h)
def inR (x : V) (lo hi : Int) : Bool := match x with
  | .int i => decide (lo ≤ i ∧ i ≤ hi)
  | _ => false
def spWhole : Sp := fun vs H Q _ => ∃ (x : V) (lo hi : Int), vs = [x, .int lo, .int hi] ∧ Thing H x ∧ Q (.bl (inR x lo hi)) H
section
variable {P : Program} {w : World} {K : PySem.W.Frag} {mg : Str → Option Value} {base : Heap} {A : Adr}
theorem ok_whole_within (T : Txt K mg A) : FnOk P w K mg base CX0 1 A.a_whole_within A.d_whole_within ["number", "least", "most"] spWhole := by
  refine T.F_whole_within.ok sc_whole_within (fun vs H Q E h => ?_) (fun cdv C outer s H vs Q E hr h => ?_)
  · obtain ⟨x, lo, hi, rfl, _⟩ := h
    rfl
  · obtain ⟨x, lo, hi, rfl, th, q⟩ := h
    refine ⟨_, (pss_cons (ps_if (PW.pt (pw_or (pt_not (pt_val (pe_callB call_isJ (by rfl) T.isinstance (by decide +kernel) (pa_cons (pv 0) (pa_cons (pe_bltn (v := .ty "int") (u := .type "int") (by rfl) T.int (by decide +kernel) rfl) pa_nil))))) (pw_or1 (pt_val (pe_callB call_isJ (by rfl) T.isinstance (by decide +kernel) (pa_cons (pv 0) (pa_cons (pe_bltn (v := .ty "bool") (u := .type "bool") (by rfl) T.bool (by decide +kernel) rfl) pa_nil)))))))
    (pss_one (ps_ret pe_bl))
    pss_nil)
  (pss_one (ps_ret (pe_chain op_le op_le (pv 1) (pv 0) (pv 2))))), ?_⟩
    cases th with
    | non => simpa [L2.start, inR] using q
    | bl b => simpa [L2.start, inR] using q
    | int i =>
      simp [L2.start]
      by_cases h1 : lo ≤ i
      · refine .inr ⟨h1, ?_⟩
        simpa [inR, h1] using q
      · refine .inl ⟨by omega, ?_⟩
        simpa [inR, h1] using q
    | str s => simpa [L2.start, inR] using q
    | lst h => simpa [L2.start, inR, tyN_lst h] using q
    | tup h => simpa [L2.start, inR, tyN_tup h] using q
    | dK h => simpa [L2.start, inR, tyN_dK h] using q
end
end Jk

namespace Jk
open PySem L2 Evl
/-! ## webs in the heap -/
def wf (l : Addr) : List (Str × V) := putF "_near" (.ref l) []
theorem wf_near (l : Addr) : (wf l).lookup ("_near" : Str) = some (.ref l) := by unfold wf; rw [lookup_putF, if_pos rfl]
theorem wf_no (l : Addr) {m : Str} (h : ¬ m = "_near") : (wf l).lookup m = none := by unfold wf; rw [lookup_putF, if_neg h]; rfl
@[simp] theorem wf_has (l : Addr) : NoFld (wf l) "has" := wf_no l (by decide +kernel)
@[simp] theorem wf_put (l : Addr) : NoFld (wf l) "put" := wf_no l (by decide +kernel)
@[simp] theorem wf_take (l : Addr) : NoFld (wf l) "take" := wf_no l (by decide +kernel)
@[simp] theorem wf_grow (l : Addr) : NoFld (wf l) "grow" := wf_no l (by decide +kernel)
@[simp] theorem wf_many (l : Addr) : NoFld (wf l) "many" := wf_no l (by decide +kernel)
@[simp] theorem wf_ties (l : Addr) : NoFld (wf l) "ties" := wf_no l (by decide +kernel)
@[simp] theorem wf_beside (l : Addr) : NoFld (wf l) "beside" := wf_no l (by decide +kernel)
@[simp] theorem wf_need (l : Addr) : NoFld (wf l) "_need_point" := wf_no l (by decide +kernel)
def rowD (r : List Int) : List (Key × V) := r.map fun j => (Sum.inl j, V.bl true)
structure WebAt (C : Addr) (H : Hp) (p l : Addr) (ds : List Addr) (rows : List (List Int)) : Prop where
  ob : ∃ dx, H p = some (.ins C dx (wf l))
  ls : H l = some (.lst (ds.map V.ref))
  nd : ds.Nodup
  len : ds.length = rows.length
  row : ∀ (i : Nat) (d : Addr) (r : List Int), ds[i]? = some d → rows[i]? = some r → H d = some (.dK (rowD r))
theorem WebAt.uniq {C : Addr} {H : Hp} {p l l' : Addr} {ds ds' : List Addr} {rows rows' : List (List Int)} (W : WebAt C H p l ds rows) (W' : WebAt C H p l' ds' rows') : l' = l ∧ ds' = ds ∧ rows' = rows := by
  obtain ⟨⟨dx, a1⟩, a2, _, a4, a5⟩ := W
  obtain ⟨⟨dx', b1⟩, b2, _, b4, b5⟩ := W'
  have e1 : l' = l := by
    rw [a1] at b1
    have z : wf l = wf l' := by cases b1; rfl
    have y := congrArg (fun fs => List.lookup ("_near" : Str) fs) z
    simp only [wf_near] at y
    cases y; rfl
  subst e1
  have e2 : ds' = ds := by
    rw [a2] at b2
    have z : ds.map V.ref = ds'.map V.ref := HO.lst.inj (Option.some.inj b2)
    exact ((List.map_inj_right (fun x y h => by cases h; rfl)).mp z).symm
  subst e2
  refine ⟨rfl, rfl, ?_⟩
  refine List.ext_getElem? fun i => ?_
  by_cases h : i < rows.length
  · have h' : i < rows'.length := by omega
    have hd : i < ds'.length := by omega
    have x := a5 i _ _ (List.getElem?_eq_getElem hd) (List.getElem?_eq_getElem h)
    have y := b5 i _ _ (List.getElem?_eq_getElem hd) (List.getElem?_eq_getElem h')
    rw [x] at y
    have z : rowD rows[i] = rowD rows'[i] := HO.dK.inj (Option.some.inj y)
    unfold rowD at z
    have z' := (List.map_inj_right (fun a b h => by cases h; rfl)).mp z
    rw [List.getElem?_eq_getElem h, List.getElem?_eq_getElem h', z']
  · rw [List.getElem?_eq_none (by omega), List.getElem?_eq_none (by omega)]
theorem web_ex {C : Addr} {H : Hp} {p l : Addr} {ds : List Addr} {rows : List (List Int)} {R : Addr → List Addr → List (List Int) → Prop} (W : WebAt C H p l ds rows) : (∃ l' ds' rows', WebAt C H p l' ds' rows' ∧ R l' ds' rows') ↔ R l ds rows :=
  ⟨fun ⟨_, _, _, W', r⟩ => by obtain ⟨rfl, rfl, rfl⟩ := W.uniq W'; exact r, fun r => ⟨l, ds, rows, W, r⟩⟩
def spNeed (A : Adr) : Sp := fun vs H Q E => ∃ (p l : Addr) (ds : List Addr) (rows : List (List Int)) (x : V), vs = [.ref p, x] ∧ WebAt A.c_Web H p l ds rows ∧ Thing H x ∧
  (inR x 0 ((rows.length : Int) - 1) = true → Q .non H) ∧ (inR x 0 ((rows.length : Int) - 1) = false → E (.ref A.c_BadPoint) none H)
section
variable {P : Program} {w : World} {K : PySem.W.Frag} {mg : Str → Option Value} {base : Heap} {A : Adr}
theorem ok_Web_need_point (T : Txt K mg A) : FnOk P w K mg base (L2.CX P w) 2 A.a_Web_need_point A.d_Web_need_point ["self", "point"] (spNeed A) := by
  refine T.F_Web_need_point.okX sc_Web_need_point (fun vs H Q E h => ?_) (fun cdv C outer s H vs Q E hr h => ?_)
  · obtain ⟨p, l, ds, rows, x, rfl, _⟩ := h
    rfl
  · obtain ⟨p, l, ds, rows, x, rfl, W, th, k1, k2⟩ := h
    obtain ⟨⟨dx, h1⟩, h2, h3, h4, h5⟩ := W
    refine ⟨_, (pss_one (ps_if (pt_not (pt_val (pe_call (ok_whole_within T) (hr.mono (by decide)) rfl T.g_whole_within T.k_whole_within T.b_whole_within .nil pass0 (pa_cons (pv 1) (pa_cons pe_int (pa_cons (pe_op op_sub (pe_callB call_lenJ (by rfl) T.len (by decide +kernel) (pa_cons (pe_fld (pv 0) rfl) pa_nil)) pe_int) pa_nil))))))
    (pss_one (ps_raise rfl (takes_of rfl rfl rfl rfl) (pmk_own PySem.F.excBase_ValueError T.xBadPoint T.gBadPoint T.kBadPoint (raises_own T.bBadPoint T.tBadPoint) rfl)))
    pss_nil)), ?_⟩
    simp [L2.start, and_assoc, h1, h2, T.cl_Web, T.n_Web__near, wf_near, spWhole, h4, th]
    cases e : inR x 0 ((rows.length : Int) - 1) with
    | true => exact .inr ⟨rfl, k1 e⟩
    | false => exact .inl ⟨rfl, k2 e⟩

/-! has -/
def okPt (rows : List (List Int)) (x : V) : Bool := inR x 0 ((rows.length : Int) - 1)
def tied (rows : List (List Int)) (i j : Int) : Bool := decide (j ∈ rows.getD i.toNat [])
theorem okPt_int {rows : List (List Int)} {x : V} (h : okPt rows x = true) : ∃ i, x = .int i ∧ 0 ≤ i ∧ i.toNat < rows.length := by
  unfold okPt inR at h
  cases x with
  | int i =>
    have h' := of_decide_eq_true h
    exact ⟨i, rfl, h'.1, by omega⟩
  | _ => cases h
theorem okPt_of {rows : List (List Int)} {i : Int} (h0 : 0 ≤ i) (h1 : i.toNat < rows.length) : okPt rows (.int i) = true := by
  unfold okPt inR
  simp
  omega
theorem rowD_val (r : List Int) (j : Int) : valV (rowD r) (Sum.inl j) = if j ∈ r then some (.bl true) else none := by
  unfold rowD
  induction r with
  | nil => rfl
  | cons a r ih =>
    by_cases e : a = j
    · subst e
      simp [valV_pos]
    · have e' : ¬ (Sum.inl a : Key) = Sum.inl j := fun z => e (Sum.inl.inj z)
      rw [List.map_cons, valV_neg (by exact e'), ih]
      have : j ∈ a :: r ↔ j ∈ r := by simp [Ne.symm e]
      simp [this]
theorem WebAt.at {C : Addr} {H : Hp} {p l : Addr} {ds : List Addr} {rows : List (List Int)} (W : WebAt C H p l ds rows) {i : Nat} (h : i < rows.length) : ∃ d, ds[i]? = some d ∧ H d = some (.dK (rowD (rows.getD i []))) ∧ (ds.map V.ref)[i]? = some (.ref d) := by
  have h' : i < ds.length := by rw [W.len]; exact h
  refine ⟨ds[i], List.getElem?_eq_getElem h', W.row i _ _ (List.getElem?_eq_getElem h') ?_, by rw [List.getElem?_map, List.getElem?_eq_getElem h']; rfl⟩
  rw [List.getD_eq_getElem?_getD, List.getElem?_eq_getElem h]
  rfl
/-- two points of the web, unlike -/
def okTwo (rows : List (List Int)) (x y : V) : Bool := okPt rows x && (okPt rows y && !decide (x = y))
def iOf : V → Int
  | .int i => i
  | _ => 0
def spHas (A : Adr) : Sp := fun vs H Q E => ∃ (p l : Addr) (ds : List Addr) (rows : List (List Int)) (x y : V), vs = [.ref p, x, y] ∧ WebAt A.c_Web H p l ds rows ∧ Thing H x ∧ Thing H y ∧
  (okTwo rows x y = true → Q (.bl (tied rows (iOf x) (iOf y))) H) ∧ (okTwo rows x y = false → E (.ref A.c_BadPoint) none H)
theorem ok_Web_has (T : Txt K mg A) : FnOk P w K mg base (L2.CX P w) 3 A.a_Web_has A.d_Web_has ["self", "one", "other"] (spHas A) := by
  refine T.F_Web_has.okX sc_Web_has (fun vs H Q E h => ?_) (fun cdv C outer s H vs Q E hr h => ?_)
  · obtain ⟨p, l, ds, rows, x, y, rfl, _⟩ := h
    rfl
  · obtain ⟨p, l, ds, rows, x, y, rfl, W, tx, ty, k1, k2⟩ := h
    have hu := hu_of hr
    refine ⟨_, (pss_cons (ps_expr (pe_meth (pv 0) T.cl_Web T.m_Web_need_point (ok_Web_need_point T) (hr.mono (by decide)) T.b_Web_need_point .nil (passes_call (E := E) (takes_of rfl rfl rfl rfl) fun _ _ _ _ z => z) (pa_cons (pv 1) pa_nil)))
  (pss_cons (ps_expr (pe_meth (pv 0) T.cl_Web T.m_Web_need_point (ok_Web_need_point T) (hr.mono (by decide)) T.b_Web_need_point .nil (passes_call (E := E) (takes_of rfl rfl rfl rfl) fun _ _ _ _ z => z) (pa_cons (pv 2) pa_nil)))
  (pss_cons (ps_if (pt_cmpR op_eq (pv 1) (pv 2) (nomark _))
    (pss_one (ps_raise rfl (takes_of rfl rfl rfl rfl) (pmk_own PySem.F.excBase_ValueError T.xBadPoint T.gBadPoint T.kBadPoint (raises_own T.bBadPoint T.tBadPoint) rfl)))
    pss_nil)
  (pss_one (ps_ret (pe_cmp (pc_dinJ hu (pv 2) (pe_ix ix_listJ (pe_fld (pv 0) rfl) (pv 1) (fun _ _ => rfl))) rfl)))))), ?_⟩
    obtain ⟨⟨dx, h1⟩, h2, h3, h4, h5⟩ := id W
    have key : (okPt rows x = true → okPt rows y = true → ∃ i j, x = .int i ∧ y = .int j ∧ 0 ≤ i ∧ i.toNat < rows.length) := fun e1 e2 => by
      obtain ⟨i, rfl, a1, a2⟩ := okPt_int e1
      obtain ⟨j, rfl, _, _⟩ := okPt_int e2
      exact ⟨i, j, rfl, rfl, a1, a2⟩
    simp [L2.start, and_assoc, h1, h2, T.cl_Web, T.n_Web__near, wf_near, spNeed, web_ex W, tx, ty]
    change (okPt rows x = true → (okPt rows y = true → _) ∧ (okPt rows y = false → _)) ∧ (okPt rows x = false → _)
    refine ⟨fun e1 => ⟨fun e2 => ?_, fun e2 => k2 (by simp [okTwo, e1, e2])⟩, fun e1 => k2 (by simp [okTwo, e1])⟩
    obtain ⟨i, j, rfl, rfl, a1, a2⟩ := key e1 e2
    obtain ⟨d, b1, b2, b3⟩ := W.at a2
    simp [okTwo, e1, e2, tied, iOf] at k1 k2
    by_cases hij : i = j
    · subst hij
      simpa using k2 rfl
    · simp at b2
      simp [and_assoc, hij, a1, b1, b2, h1, h2, T.cl_Web, T.n_Web__near, wf_near, rowD_val]
      by_cases hm : j ∈ rows[i.toNat]?.getD [] <;> simpa [hm] using k1 hij
end
end Jk

namespace Jk
open PySem L2 Evl
/-- all but what stands at M is as it was, and nothing is forgotten -/
structure But (M : List Addr) (H H' : Hp) : Prop where
  kp : ∀ b o, H b = some o → b ∉ M → H' b = some o
  dm : ∀ b, H' b = none → H b = none
theorem But.of_ex {M : List Addr} {H H' : Hp} (e : Ex H H') : But M H H' := ⟨fun b o h _ => e b o h, fun _ h => fresh_back e h⟩
theorem But.trans {M : List Addr} {H H1 H2 : Hp} (a : But M H H1) (b : But M H1 H2) : But M H H2 := ⟨fun c o h n => b.kp c o (a.kp c o h n) n, fun c h => a.dm c (b.dm c h)⟩
theorem But.mono {M N : List Addr} {H H' : Hp} (a : But M H H') (s : ∀ x ∈ M, x ∈ N) : But N H H' := ⟨fun c o h n => a.kp c o h fun z => n (s c z), a.dm⟩
theorem But.upd {M : List Addr} {H : Hp} {d : Addr} {o : HO} (h : d ∈ M) : But M H (upd H d o) := ⟨fun b u e n => by
  rw [upd_ne (show b ≠ d from fun z => n (by rw [z]; exact h))]
  exact e, fun b z => by
  by_cases q : b = d
  · subst q; rw [upd_same] at z; cases z
  · rw [upd_ne q] at z; exact z⟩
theorem But.updT {M : List Addr} {H H' : Hp} {d : Addr} {o : HO} (a : But M H H') (h : d ∈ M) : But M H (L2.upd H' d o) := a.trans (But.upd h)
def putR (rows : List (List Int)) (i j : Nat) : List (List Int) := (rows.set i (rows.getD i [] ++ [(j : Int)])).set j (rows.getD j [] ++ [(i : Int)])
def takeR (rows : List (List Int)) (i j : Nat) : List (List Int) := (rows.set i ((rows.getD i []).filter fun z => decide (z ≠ (j : Int)))).set j ((rows.getD j []).filter fun z => decide (z ≠ (i : Int)))
theorem rowD_put {r : List Int} {j : Int} (h : ¬ j ∈ r) : putK (rowD r) (Sum.inl j) (.bl true) = rowD (r ++ [j]) := by
  rw [putK_new _ (by rw [rowD_val, if_neg h])]
  unfold rowD
  rw [List.map_append]
  rfl
theorem rowD_drop (r : List Int) (j : Int) : dropK (rowD r) (Sum.inl j) = rowD (r.filter fun z => decide (z ≠ j)) := by
  unfold rowD dropK
  rw [List.filter_map]
  congr 1
  refine List.filter_congr fun z _ => ?_
  show decide ((Sum.inl z : Key) ≠ Sum.inl j) = decide (z ≠ j)
  by_cases e : z = j <;> simp [e]
theorem WebAt.set {C : Addr} {H : Hp} {p l : Addr} {ds : List Addr} {rows : List (List Int)} (W : WebAt C H p l ds rows) {i : Nat} {d : Addr} {r : List Int} (hd : ds[i]? = some d) (hi : i < rows.length) : WebAt C (upd H d (.dK (rowD r))) p l ds (rows.set i r) := by
  obtain ⟨dx, h1⟩ := W.ob
  have hD : H d = some (.dK (rowD (rows.getD i []))) := by
    obtain ⟨d', e1, e2, _⟩ := W.at hi
    rw [hd] at e1; cases e1; exact e2
  refine ⟨⟨dx, ?_⟩, ?_, W.nd, by rw [List.length_set]; exact W.len, fun k d' r' e1 e2 => ?_⟩
  · rw [upd_ne (ne_of h1 hD (by intro z; cases z))]; exact h1
  · rw [upd_ne (ne_of W.ls hD (by intro z; cases z))]; exact W.ls
  · by_cases hk : k = i
    · subst hk
      rw [hd] at e1; cases e1
      rw [List.getElem?_set_self hi] at e2; cases e2
      exact upd_same
    · have hne : d' ≠ d := fun z => hk (nd_ix W.nd e1 (z ▸ hd))
      rw [upd_ne hne]
      rw [List.getElem?_set_ne (Ne.symm hk)] at e2
      exact W.row k d' r' e1 e2
theorem WebAt.up {C : Addr} {H H' : Hp} {p l : Addr} {ds : List Addr} {rows : List (List Int)} (W : WebAt C H p l ds rows) (e : Ex H H') : WebAt C H' p l ds rows :=
  ⟨let ⟨dx, h⟩ := W.ob; ⟨dx, e _ _ h⟩, e _ _ W.ls, W.nd, W.len, fun i d r a b => e _ _ (W.row i d r a b)⟩
theorem WebAt.but {C : Addr} {H H' : Hp} {p l : Addr} {ds : List Addr} {rows : List (List Int)} {M : List Addr} (W : WebAt C H p l ds rows) (e : But M H H') (n : ∀ x ∈ M, x ≠ p ∧ x ≠ l ∧ x ∉ ds) : WebAt C H' p l ds rows :=
  ⟨let ⟨dx, h⟩ := W.ob; ⟨dx, e.kp _ _ h fun z => (n _ z).1 rfl⟩, e.kp _ _ W.ls fun z => (n _ z).2.1 rfl, W.nd, W.len, fun i d r a b => e.kp _ _ (W.row i d r a b) fun z => (n _ z).2.2 (List.mem_of_getElem? a)⟩
/-- ties go both ways -/
def Sym (rows : List (List Int)) : Prop := ∀ i j : Nat, i < rows.length → j < rows.length → ((j : Int) ∈ rows.getD i [] ↔ (i : Int) ∈ rows.getD j [])
def spPut (A : Adr) : Sp := fun vs H Q E => ∃ (p l : Addr) (ds : List Addr) (rows : List (List Int)) (x y : V), vs = [.ref p, x, y] ∧ WebAt A.c_Web H p l ds rows ∧ Thing H x ∧ Thing H y ∧ Sym rows ∧ (∀ r ∈ rows, r.length ≤ 100) ∧
  (okTwo rows x y = false → E (.ref A.c_BadPoint) none H) ∧ (okTwo rows x y = true → tied rows (iOf x) (iOf y) = true → E (.ref A.c_Twice) none H) ∧
  (okTwo rows x y = true → tied rows (iOf x) (iOf y) = false → ∀ H', WebAt A.c_Web H' p l ds (putR rows (iOf x).toNat (iOf y).toNat) → But ds H H' → Q .non H')
def spTake (A : Adr) : Sp := fun vs H Q E => ∃ (p l : Addr) (ds : List Addr) (rows : List (List Int)) (x y : V), vs = [.ref p, x, y] ∧ WebAt A.c_Web H p l ds rows ∧ Thing H x ∧ Thing H y ∧ Sym rows ∧
  (okTwo rows x y = false → E (.ref A.c_BadPoint) none H) ∧ (okTwo rows x y = true → tied rows (iOf x) (iOf y) = false → E (.ref A.c_NoTie) none H) ∧
  (okTwo rows x y = true → tied rows (iOf x) (iOf y) = true → ∀ H', WebAt A.c_Web H' p l ds (takeR rows (iOf x).toNat (iOf y).toNat) → But ds H H' → Q .non H')
theorem okTwo_ints {rows : List (List Int)} {x y : V} (h : okTwo rows x y = true) : ∃ i j : Nat, x = .int i ∧ y = .int j ∧ i < rows.length ∧ j < rows.length ∧ i ≠ j := by
  unfold okTwo at h
  simp only [Bool.and_eq_true, Bool.not_eq_true', decide_eq_false_iff_not] at h
  obtain ⟨h1, h2, h3⟩ := h
  obtain ⟨i, rfl, a1, a2⟩ := okPt_int h1
  obtain ⟨j, rfl, b1, b2⟩ := okPt_int h2
  refine ⟨i.toNat, j.toNat, by rw [Int.toNat_of_nonneg a1], by rw [Int.toNat_of_nonneg b1], a2, b2, fun z => h3 ?_⟩
  have : i = j := by omega
  rw [this]
section
variable {P : Program} {w : World} {K : PySem.W.Frag} {mg : Str → Option Value} {base : Heap} {A : Adr}
theorem ok_Web_put (T : Txt K mg A) : FnOk P w K mg base (L2.CX P w) 4 A.a_Web_put A.d_Web_put ["self", "one", "other"] (spPut A) := by
  refine T.F_Web_put.okX sc_Web_put (fun vs H Q E h => ?_) (fun cdv C outer s H vs Q E hr h => ?_)
  · obtain ⟨p, l, ds, rows, x, y, rfl, _⟩ := h
    rfl
  · obtain ⟨p, l, ds, rows, x, y, rfl, W, tx, ty, sy, small, k1, k2, k3⟩ := h
    have hu := hu_of hr
    refine ⟨_, (pss_cons (ps_if (pt_val (pe_meth (pv 0) T.cl_Web T.m_Web_has (ok_Web_has T) (hr.mono (by decide)) T.b_Web_has .nil (passes_call (E := E) (takes_of rfl rfl rfl rfl) fun _ _ _ _ z => z) (pa_cons (pv 1) (pa_cons (pv 2) pa_nil))))
    (pss_one (ps_raise rfl (takes_of rfl rfl rfl rfl) (pmk_own PySem.F.excBase_ValueError T.xTwice T.gTwice T.kTwice (raises_own T.bTwice T.tTwice) rfl)))
    pss_nil)
  (pss_cons (ps_dputJ hu (pe_ix ix_listJ (pe_fld (pv 0) rfl) (pv 1) (fun _ _ => rfl)) (pv 2) pe_bl rfl)
  (pss_one (ps_dputJ hu (pe_ix ix_listJ (pe_fld (pv 0) rfl) (pv 2) (fun _ _ => rfl)) (pv 1) pe_bl rfl)))), ?_⟩
    obtain ⟨⟨dx, h1⟩, h2, h3, h4, h5⟩ := id W
    simp [L2.start, and_assoc, h1, h2, T.cl_Web, T.n_Web__near, wf_near, spHas, web_ex W, tx, ty]
    refine ⟨fun ok => ?_, k1⟩
    cases ht : tied rows (iOf x) (iOf y) with
    | true => simpa [ht] using k2 ok ht
    | false =>
      obtain ⟨i, j, rfl, rfl, hi, hj, hij⟩ := okTwo_ints ok
      obtain ⟨d, b1, b2, b3⟩ := W.at hi
      obtain ⟨d', c1, c2, c3⟩ := W.at hj
      have nij : ¬ (j : Int) ∈ rows.getD i [] := by simpa [tied, iOf] using ht
      have nji : ¬ (i : Int) ∈ rows.getD j [] := fun z => nij ((sy i j hi hj).mpr z)
      have W1 := W.set (r := rows.getD i [] ++ [(j : Int)]) b1 hi
      have W2 := W1.set (r := rows.getD j [] ++ [(i : Int)]) c1 (by rw [List.length_set]; exact hj)
      have ndd : d' ≠ d := fun z => hij (nd_ix W.nd b1 (z ▸ c1))
      have l1 : (rowD (rows.getD i [])).length ≤ 100000 := by
        unfold rowD; rw [List.length_map, List.getD_eq_getElem?_getD, List.getElem?_eq_getElem hi]
        exact Nat.le_trans (small _ (List.getElem_mem hi)) (by decide)
      have l2 : (rowD (rows.getD j [])).length ≤ 100000 := by
        unfold rowD; rw [List.length_map, List.getD_eq_getElem?_getD, List.getElem?_eq_getElem hj]
        exact Nat.le_trans (small _ (List.getElem_mem hj)) (by decide)
      have g1 : (upd H d (.dK (rowD (rows.getD i [] ++ [(j : Int)])))) p = some (.ins A.c_Web dx (wf l)) := by rw [upd_ne (ne_of h1 b2 (by intro z; cases z))]; exact h1
      have g2 := W1.ls
      have g3 : (upd H d (.dK (rowD (rows.getD i [] ++ [(j : Int)])))) d' = some (.dK (rowD (rows.getD j []))) := by rw [upd_ne ndd]; exact c2
      have fin := k3 ok ht _ W2 ((But.upd (List.mem_of_getElem? b1)).updT (List.mem_of_getElem? c1))
      simp only [List.getD_eq_getElem?_getD] at *
      simp [and_assoc, ht, h1, h2, b1, b2, T.cl_Web, T.n_Web__near, wf_near, rowD_put nij, l1, g1, g2, c1, g3, rowD_put nji, l2]
      exact fin
end
end Jk

namespace Jk
open PySem L2 Evl
def spGrow (A : Adr) : Sp := fun vs H Q E => ∃ (p l : Addr) (ds : List Addr) (rows : List (List Int)), vs = [.ref p] ∧ WebAt A.c_Web H p l ds rows ∧ rows.length ≤ 1000 ∧
  (30 ≤ rows.length → E (.ref A.c_TooMany) none H) ∧ (rows.length < 30 → ∀ d H', H d = none → WebAt A.c_Web H' p l (ds ++ [d]) (rows ++ [[]]) → But [l] H H' → Q (.int (rows.length : Int)) H')
def spMany (A : Adr) : Sp := fun vs H Q _ => ∃ (p l : Addr) (ds : List Addr) (rows : List (List Int)), vs = [.ref p] ∧ WebAt A.c_Web H p l ds rows ∧ Q (.int (rows.length : Int)) H
section
variable {P : Program} {w : World} {K : PySem.W.Frag} {mg : Str → Option Value} {base : Heap} {A : Adr}
theorem ok_Web_take (T : Txt K mg A) : FnOk P w K mg base (L2.CX P w) 4 A.a_Web_take A.d_Web_take ["self", "one", "other"] (spTake A) := by
  refine T.F_Web_take.okX sc_Web_take (fun vs H Q E h => ?_) (fun cdv C outer s H vs Q E hr h => ?_)
  · obtain ⟨p, l, ds, rows, x, y, rfl, _⟩ := h
    rfl
  · obtain ⟨p, l, ds, rows, x, y, rfl, W, tx, ty, sy, k1, k2, k3⟩ := h
    have hu := hu_of hr
    refine ⟨_, (pss_cons (ps_if (pt_not (pt_val (pe_meth (pv 0) T.cl_Web T.m_Web_has (ok_Web_has T) (hr.mono (by decide)) T.b_Web_has .nil (passes_call (E := E) (takes_of rfl rfl rfl rfl) fun _ _ _ _ z => z) (pa_cons (pv 1) (pa_cons (pv 2) pa_nil)))))
    (pss_one (ps_raise rfl (takes_of rfl rfl rfl rfl) (pmk_own PySem.F.excBase_ValueError T.xNoTie T.gNoTie T.kNoTie (raises_own T.bNoTie T.tNoTie) rfl)))
    pss_nil)
  (pss_cons (ps_ddel (pe_ix ix_listJ (pe_fld (pv 0) rfl) (pv 1) (fun _ _ => rfl)) (pv 2))
  (pss_one (ps_ddel (pe_ix ix_listJ (pe_fld (pv 0) rfl) (pv 2) (fun _ _ => rfl)) (pv 1))))), ?_⟩
    obtain ⟨⟨dx, h1⟩, h2, h3, h4, h5⟩ := id W
    simp [L2.start, and_assoc, h1, h2, T.cl_Web, T.n_Web__near, wf_near, spHas, web_ex W, tx, ty]
    refine ⟨fun ok => ?_, k1⟩
    cases ht : tied rows (iOf x) (iOf y) with
    | false => simpa [ht] using k2 ok ht
    | true =>
      obtain ⟨i, j, rfl, rfl, hi, hj, hij⟩ := okTwo_ints ok
      obtain ⟨d, b1, b2, b3⟩ := W.at hi
      obtain ⟨d', c1, c2, c3⟩ := W.at hj
      have mij : (j : Int) ∈ rows.getD i [] := by simpa [tied, iOf] using ht
      have mji : (i : Int) ∈ rows.getD j [] := (sy i j hi hj).mp mij
      have W1 := W.set (r := (rows.getD i []).filter fun z => decide (z ≠ (j : Int))) b1 hi
      have W2 := W1.set (r := (rows.getD j []).filter fun z => decide (z ≠ (i : Int))) c1 (by rw [List.length_set]; exact hj)
      have ndd : d' ≠ d := fun z => hij (nd_ix W.nd b1 (z ▸ c1))
      have v1 : valV (rowD (rows.getD i [])) (Sum.inl (j : Int)) = some (.bl true) := by rw [rowD_val, if_pos mij]
      have v2 : valV (rowD (rows.getD j [])) (Sum.inl (i : Int)) = some (.bl true) := by rw [rowD_val, if_pos mji]
      have g1 : (upd H d (.dK (rowD ((rows.getD i []).filter fun z => decide (z ≠ (j : Int)))))) p = some (.ins A.c_Web dx (wf l)) := by rw [upd_ne (ne_of h1 b2 (by intro z; cases z))]; exact h1
      have g2 := W1.ls
      have g3 : (upd H d (.dK (rowD ((rows.getD i []).filter fun z => decide (z ≠ (j : Int)))))) d' = some (.dK (rowD (rows.getD j []))) := by rw [upd_ne ndd]; exact c2
      have fin := k3 ok ht _ W2 ((But.upd (List.mem_of_getElem? b1)).updT (List.mem_of_getElem? c1))
      simp only [List.getD_eq_getElem?_getD] at *
      have q1 := rowD_drop (rows[i]?.getD []) (j : Int)
      have q2 := rowD_drop (rows[j]?.getD []) (i : Int)
      simp [and_assoc, ht, h1, h2, b1, b2, v1, T.cl_Web, T.n_Web__near, wf_near, q1]
      simp at g1 g2 g3 fin q2
      simp [and_assoc, g1, g2, c1, g3, v2, T.cl_Web, T.n_Web__near, wf_near, q2]
      exact fin
theorem ok_Web_many (T : Txt K mg A) : FnOk P w K mg base CX0 1 A.a_Web_many A.d_Web_many ["self"] (spMany A) := by
  refine T.F_Web_many.ok sc_Web_many (fun vs H Q E h => ?_) (fun cdv C outer s H vs Q E hr h => ?_)
  · obtain ⟨p, l, ds, rows, rfl, _⟩ := h
    rfl
  · obtain ⟨p, l, ds, rows, rfl, W, k⟩ := h
    obtain ⟨⟨dx, h1⟩, h2, h3, h4, h5⟩ := id W
    refine ⟨_, (pss_one (ps_ret (pe_callB call_lenJ (by rfl) T.len (by decide +kernel) (pa_cons (pe_fld (pv 0) rfl) pa_nil)))), ?_⟩
    simpa [L2.start, and_assoc, h1, h2, T.cl_Web, T.n_Web__near, wf_near, h4] using k
theorem ok_Web_grow (T : Txt K mg A) : FnOk P w K mg base (L2.CX P w) 1 A.a_Web_grow A.d_Web_grow ["self"] (spGrow A) := by
  refine T.F_Web_grow.okX sc_Web_grow (fun vs H Q E h => ?_) (fun cdv C outer s H vs Q E hr h => ?_)
  · obtain ⟨p, l, ds, rows, rfl, _⟩ := h
    rfl
  · obtain ⟨p, l, ds, rows, rfl, W, hl, k1, k2⟩ := h
    obtain ⟨⟨dx, h1⟩, h2, h3, h4, h5⟩ := id W
    refine ⟨_, (pss_cons (ps_set (i := 1) sc_Web_grow.nd rfl (Or.inl rfl) (pe_callB call_lenJ (by rfl) T.len (by decide +kernel) (pa_cons (pe_fld (pv 0) rfl) pa_nil)))
  (pss_cons (ps_if (pt_cmpR op_ge (pv 1) (pe_glob (v := .int 30) rfl T.cMOST_POINTS.choose_spec ⟨_, rfl⟩) (nomark _))
    (pss_one (ps_raise rfl (takes_of rfl rfl rfl rfl) (pmk_own PySem.F.excBase_ValueError T.xTooMany T.gTooMany T.kTooMany (raises_own T.bTooMany T.tTooMany) rfl)))
    pss_nil)
  (pss_cons (ps_expr (pe_bmL PySem.F.slot_list_append PySem.F.type_list_append mt_append (pe_fld (pv 0) rfl) (pa_cons pe_dictJ pa_nil)))
  (pss_one (ps_ret (pv 1)))))), ?_⟩
    simp [L2.start, and_assoc, h1, h2, T.cl_Web, T.n_Web__near, wf_near, h4]
    by_cases h30 : 30 ≤ rows.length
    · have : (30 : Int) ≤ (rows.length : Int) := by omega
      refine .inr ⟨this, k1 h30⟩
    · have : ¬ (30 : Int) ≤ (rows.length : Int) := by omega
      refine .inl ⟨by omega, fun d H2 hd e hd2 => ?_⟩
      have nl : d ≠ l := fun z => by rw [z, h2] at hd; cases hd
      refine ⟨ds.map V.ref, e _ _ h2, by rw [List.length_map, h4]; exact lt_line (by omega), ?_⟩
      have nin : d ∉ ds := fun z => by
        obtain ⟨i, hi, ei⟩ := List.mem_iff_getElem.mp z
        obtain ⟨d', c1, c2, _⟩ := W.at (i := i) (by rw [← h4]; exact hi)
        rw [List.getElem?_eq_getElem hi, ei] at c1
        cases c1
        rw [c2] at hd; cases hd
      refine k2 (by omega) d _ hd ⟨⟨dx, ?_⟩, ?_, ?_, by simp [h4], fun i d' r e1 e2 => ?_⟩ ((But.of_ex e).updT (by simp))
      · rw [upd_ne (ne_of h1 h2 (by intro z; cases z))]; exact e _ _ h1
      · rw [upd_same, List.map_append]; rfl
      · exact nd_snoc h3 nin
      · by_cases hi : i < ds.length
        · rw [List.getElem?_append_left hi] at e1
          rw [List.getElem?_append_left (by omega)] at e2
          have z := h5 i d' r e1 e2
          rw [upd_ne (ne_of z h2 (by intro z; cases z))]
          exact e _ _ z
        · rw [List.getElem?_append_right (by omega)] at e1 e2
          have i0 : i - ds.length = 0 := by
            have := (List.getElem?_eq_some_iff.mp e1).1
            simp at this; omega
          rw [i0] at e1
          rw [show i - rows.length = 0 by omega] at e2
          simp at e1 e2
          subst e1 e2
          rw [upd_ne nl]
          exact hd2
end
end Jk

namespace Jk
open PySem L2 Evl
/-! ## comprehensions -/
def CompI (D : Addr) (H1 : Hp) (R : Nat → List V → Hp → Prop) (i : Nat) (H : Hp) : Prop := Ex H1 H ∧ ∃ acc, H D = some (.lst acc) ∧ acc.length ≤ 100000 ∧ R i acc H
theorem CompI.push {D : Addr} {H1 H4 : Hp} {R : Nat → List V → Hp → Prop} {i : Nat} {y : V} {acc : List V} (hD : H1 D = none) (e : Ex H1 H4) (ha : H4 D = some (.lst acc)) (hl : acc.length < 100000) (r : R (i + 1) (acc ++ [y]) (upd H4 D (.lst (acc ++ [y])))) :
    ∃ acc, H4 D = some (.lst acc) ∧ acc.length < sizeLine ∧ CompI D H1 R (i + 1) (upd H4 D (.lst (acc ++ [y]))) :=
  ⟨acc, ha, lt_line (by omega), Ex.mut e hD, _, upd_same, by rw [List.length_append]; exact hl, r⟩
def rowP (n i : Nat) : List (Int × Int) := (List.range (n - (i + 1))).map fun k => ((i : Int), ((i + 1 + k : Nat) : Int))
def pairsL (n : Nat) : List (Int × Int) := (List.range n).flatMap (rowP n)
theorem rows_len (n : Nat) : ∀ i : Nat, ((List.range i).flatMap (rowP n)).length ≤ i * n
  | 0 => by simp
  | i + 1 => by
    have ih := rows_len n i
    rw [List.range_succ, List.flatMap_append, List.length_append]
    have : ([i].flatMap (rowP n)).length ≤ n := by simp [rowP]
    have e : (i + 1) * n = i * n + n := Nat.succ_mul i n
    omega
theorem TupsAt.but {M : List Addr} {H H' : Hp} {ts : List Addr} {prs : List (Int × Int)} (h : TupsAt H ts prs) (e : But M H H') (n : ∀ t ∈ ts, t ∉ M) : TupsAt H' ts prs := ⟨h.1, fun k t p a b => e.kp _ _ (h.2 k t p a b) (n t (List.mem_of_getElem? a))⟩
def RetTups (prs : List (Int × Int)) (H : Hp) (Q : VK) : Prop := ∀ (ts : List Addr) q H', H q = none → Ex H H' → H' q = some (.lst (ts.map V.ref)) → TupsAt H' ts prs → Q (.ref q) H'
def spPairs : Sp := fun vs H Q _ => ∃ (n : Nat), vs = [.int (n : Int)] ∧ n ≤ 30 ∧ RetTups (pairsL n) H Q
section
variable {P : Program} {w : World} {K : PySem.W.Frag} {mg : Str → Option Value} {base : Heap} {A : Adr}
theorem ok_pairs (T : Txt K mg A) : FnOk P w K mg base CX0 1 A.a_pairs A.d_pairs ["many"] spPairs := by
  refine T.F_pairs.ok sc_pairs (fun vs H Q E h => ?_) (fun cdv C outer s H vs Q E hr h => ?_)
  · obtain ⟨n, rfl, _⟩ := h
    rfl
  · obtain ⟨n, rfl, hn, k⟩ := h
    refine ⟨_, (pss_one (ps_ret (pe_lc2 (own := [("one", 1), ("other", 2)]) (vs1 := [2]) rfl sc_pairs.nd (pi_range1 rfl T.range (pa_cons (pv 0) pa_nil)) (blkOk_by (own := [("one", 1), ("other", 2)]) (N := ["many", "one", "other"]) (sc := defScope s_pairs) (by decide +kernel)) (by decide) (fun _ _ _ _ _ => (pg_name (i := 1) sc_pairs.nd rfl (Or.inl rfl))) (fun _ _ _ _ _ => pts_nil) (fun _ _ _ _ _ => (pi_range2 rfl T.range (pa_cons (pe_op op_add (pv 1) pe_int) (pa_cons (pv 0) pa_nil)))) (fun _ _ _ _ _ => (pg_name (i := 2) sc_pairs.nd rfl (Or.inl rfl))) (fun _ _ _ _ _ => pts_nil) (fun _ _ _ _ _ => (pe_tupJ (pa_cons (pv 1) (pa_cons (pv 2) pa_nil))))))), ?_⟩
    let R : Nat → List V → Hp → Prop := fun i acc H' => ∃ ts : List Addr, acc = ts.map V.ref ∧ TupsAt H' ts ((List.range i).flatMap (rowP n))
    refine ⟨_, rfl, (n : Int), rfl, by omega, by omega, fun D hD => ⟨fun i m H' => m = n - i ∧ i ≤ n ∧ CompI D H R i H', ⟨n, by simp, Nat.zero_le _, Ex.new hD, [], upd_same, by simp, [], rfl, TupsAt.nil _⟩, ?_⟩⟩
    rintro i m H1 ⟨rfl, hi, c⟩
    by_cases hlt : i < n
    · refine .inr ⟨by show i < (n : Int).toNat; omega, CompI D H R (i + 1), fun H' p' => ⟨n - (i + 1), by omega, rfl, hlt, p'⟩, fun x H' y => ?_⟩
      obtain ⟨rfl, rfl⟩ := y
      let R2 : Nat → List V → Hp → Prop := fun j acc H' => ∃ ts : List Addr, acc = ts.map V.ref ∧ TupsAt H' ts ((List.range i).flatMap (rowP n) ++ (rowP n i).take j)
      refine ⟨rfl, ?_⟩
      refine ⟨_, rfl, _, _, rfl, rfl, _, rfl, _, _, rfl, ⟨by omega, by omega, by omega, by omega⟩, fun j m H' => m = (n - (i + 1)) - j ∧ j ≤ n - (i + 1) ∧ CompI D H R2 j H', ⟨n - (i + 1), by simp, Nat.zero_le _, ?_⟩, ?_⟩
      · obtain ⟨e, acc, h1, h2, ts, h3, h4⟩ := c
        exact ⟨e, acc, h1, h2, ts, h3, by simpa using h4⟩
      · rintro j m H2 ⟨rfl, hj, c2⟩
        by_cases hlt2 : j < n - (i + 1)
        · refine .inr ⟨by show j < ((n : Int) - (0 + (i : Int) + 1)).toNat; omega, CompI D H R2 (j + 1), fun H' p' => ⟨n - (i + 1) - (j + 1), by omega, rfl, hlt2, p'⟩, fun x H' y => ?_⟩
          obtain ⟨rfl, rfl⟩ := y
          obtain ⟨e, acc, h1, h2, ts, h3, h4⟩ := c2
          refine ⟨rfl, ?_⟩
          have e0 : (0 : Int) + (i : Int) + 1 + (j : Int) = ((i + 1 + j : Nat) : Int) := by omega
          have hat : (rowP n i).take (j + 1) = (rowP n i).take j ++ [((i : Int), ((i + 1 + j : Nat) : Int))] := by
            rw [List.take_add_one]
            congr 1
            have : (rowP n i)[j]? = some ((i : Int), ((i + 1 + j : Nat) : Int)) := by
              unfold rowP
              rw [List.getElem?_map, List.getElem?_range hlt2]
              rfl
            rw [this]; rfl
          have hlen : acc.length < 100000 := by
            have z := h4.1
            have z2 := rows_len n i
            rw [List.length_append] at z
            have z3 : ((rowP n i).take j).length ≤ n := by rw [List.length_take]; simp [rowP]; omega
            have z4 : i * n ≤ 30 * 30 := Nat.mul_le_mul (by omega) hn
            rw [h3, List.length_map]
            omega
          simp [L2.start, wipe, tYes]
          intro p H4 hp e4 hp4
          refine CompI.push (acc := acc) ?_ (e.trans e4) (e4 _ _ h1) hlen ?_
          · exact hD
          · refine ⟨ts ++ [p], by rw [h3, List.map_append]; rfl, ?_⟩
            rw [hat, ← List.append_assoc]
            have ne : p ≠ D := fun z => by rw [z, h1] at hp; cases hp
            refine TupsAt.snoc ((h4.up e4).upd (e4 _ _ h1)) ?_
            rw [upd_ne ne, hp4]
            simp
        · have ej : j = n - (i + 1) := by omega
          refine .inl ⟨by show ((n : Int) - (0 + (i : Int) + 1)).toNat ≤ j; omega, ?_⟩
          obtain ⟨e, acc, h1, h2, ts, h3, h4⟩ := c2
          refine ⟨e, acc, h1, h2, ts, h3, ?_⟩
          have z : (rowP n i).take j = rowP n i := List.take_of_length_le (by simp [rowP]; omega)
          rw [z] at h4
          rw [List.range_succ, List.flatMap_append]
          simpa using h4
    · have ei : i = n := by omega
      refine .inl ⟨by show (n : Int).toNat ≤ i; omega, ?_⟩
      obtain ⟨e, acc, h1, h2, ts, h3, h4⟩ := c
      subst ei
      subst h3
      exact k ts D H1 hD e h1 h4
def tiesL (rows : List (List Int)) : List (Int × Int) := (pairsL rows.length).filter fun p => tied rows p.1 p.2
def spTies (A : Adr) : Sp := fun vs H Q _ => ∃ (p l : Addr) (ds : List Addr) (rows : List (List Int)), vs = [.ref p] ∧ WebAt A.c_Web H p l ds rows ∧ rows.length ≤ 30 ∧ RetTups (tiesL rows) H Q
theorem pairs_in {n : Nat} {p : Int × Int} (h : p ∈ pairsL n) : ∃ i j : Nat, p = ((i : Int), (j : Int)) ∧ i < j ∧ j < n := by
  unfold pairsL rowP at h
  obtain ⟨i, hi, h⟩ := List.mem_flatMap.mp h
  obtain ⟨k, hk, rfl⟩ := List.mem_map.mp h
  have a := List.mem_range.mp hi
  have b := List.mem_range.mp hk
  exact ⟨i, i + 1 + k, rfl, by omega, by omega⟩
theorem ok_Web_ties (T : Txt K mg A) : FnOk P w K mg base CX0 2 A.a_Web_ties A.d_Web_ties ["self"] (spTies A) := by
  refine T.F_Web_ties.ok sc_Web_ties (fun vs H Q E h => ?_) (fun cdv C outer s H vs Q E hr h => ?_)
  · obtain ⟨p, l, ds, rows, rfl, _⟩ := h
    rfl
  · obtain ⟨p, l, ds, rows, rfl, W, h30, k⟩ := h
    have hu := hu_of hr
    refine ⟨_, (pss_one (ps_ret (pe_lc (own := [("one", 1), ("other", 2)]) rfl sc_Web_ties.nd (pi_list (pe_call (ok_pairs T) (hr.mono (by decide)) rfl T.g_pairs T.k_pairs T.b_pairs .nil pass0 (pa_cons (pe_meth0 (pv 0) T.cl_Web T.m_Web_many (ok_Web_many T) (hr.mono (by decide)) T.b_Web_many .nil pass0) pa_nil))) (blkOk_by (own := [("one", 1), ("other", 2)]) (N := ["self", "one", "other"]) (sc := defScope s_Web_ties) (by decide +kernel)) (fun _ _ _ _ _ => by exact (pg_tupJ (n := 2) rfl (pgs_cons (pg_name (i := 1) sc_Web_ties.nd rfl (Or.inl rfl)) (pgs_cons (pg_name (i := 2) sc_Web_ties.nd rfl (Or.inl rfl)) pgs_nil)))) (fun _ _ _ _ _ => by exact (pts_one (pt_cmp (pc_dinJ (by exact hu) (pv 2) (pe_ix ix_listJ (pe_fldK (K0 := K) (pv 0)) (pv 1) (fun _ _ => rfl)))))) (fun _ _ _ _ _ => by exact (pe_tupJ (pa_cons (pv 1) (pa_cons (pv 2) pa_nil))))))), ?_⟩
    obtain ⟨⟨dx, h1⟩, h2, h3, h4, h5⟩ := id W
    refine ⟨_, rfl, p, dx, wf l, rfl, h1, wf_many l, p, l, ds, rows, rfl, W, rows.length, rfl, h30, fun ts q H1 hq e hlq ht => ⟨q, rfl, ⟨_, .inl (.inl hlq)⟩, fun D hD => ?_⟩⟩
    have hqD : q ≠ D := fun z => by rw [z, hD] at hlq; cases hlq
    have W1 := W.up e
    refine lc_list (xs := ts.map V.ref) (CompI D H1 fun i acc H' => ∃ us : List Addr, acc = us.map V.ref ∧ TupsAt H' us (((pairsL rows.length).take i).filter fun p => tied rows p.1 p.2)) ⟨Ex.new hD, [], upd_same, by simp, [], rfl, TupsAt.nil _⟩ (fun i H' _ c => .inl (.inl (c.1 _ _ hlq))) (fun i x H' hx c => ?_) (fun H' c => ?_)
    · rw [List.getElem?_map] at hx
      cases ht0 : ts[i]? with
      | none => rw [ht0] at hx; cases hx
      | some t =>
        rw [ht0] at hx
        cases hx
        have hi : i < ts.length := (List.getElem?_eq_some_iff.mp ht0).1
        have hi' : i < (pairsL rows.length).length := by rw [← ht.1]; exact hi
        have hp0 : (pairsL rows.length)[i]? = some (pairsL rows.length)[i] := List.getElem?_eq_getElem hi'
        obtain ⟨m, n, hp, hmn, hnr⟩ := pairs_in (List.mem_of_getElem? hp0)
        have htup := ht.2 i t _ ht0 hp0
        rw [hp] at htup hp0
        obtain ⟨e2, acc, g1, g2, us, g3, g4⟩ := c
        have W2 := W1.up e2
        obtain ⟨⟨dx', w1⟩, w2, w3, w4, w5⟩ := id W2
        obtain ⟨d, b1, b2, b3⟩ := W2.at (show m < rows.length by omega)
        have hlen : acc.length < 100000 := by
          have z := g4.1
          have z1 := List.length_filter_le (fun p => tied rows p.1 p.2) ((pairsL rows.length).take i)
          have z2 := rows_len rows.length rows.length
          have z3 : rows.length * rows.length ≤ 30 * 30 := Nat.mul_le_mul h30 h30
          have z4 : ((pairsL rows.length).take i).length ≤ (pairsL rows.length).length := by rw [List.length_take]; omega
          have z5 : (pairsL rows.length).length ≤ rows.length * rows.length := z2
          rw [g3, List.length_map]; omega
        have step : (((pairsL rows.length).take (i + 1)).filter fun p => tied rows p.1 p.2) = (((pairsL rows.length).take i).filter fun p => tied rows p.1 p.2) ++ (if tied rows m n = true then [((m : Int), (n : Int))] else []) := by
          rw [List.take_add_one, hp0, List.filter_append]
          simp [List.filter_cons]
        simp only [List.getD_eq_getElem?_getD] at b2
        simp [L2.start, wipe, and_assoc, e2 _ _ htup, w1, w2, b1, b2, T.cl_Web, T.n_Web__near, wf_near, rowD_val]
        have td : tied rows m n = decide ((n : Int) ∈ rows[m]?.getD []) := by simp [tied]
        by_cases hm : (n : Int) ∈ rows[m]?.getD []
        · refine .inr ⟨hm, fun p H3 hp3 e3 hq3 => ?_⟩
          have ne : p ≠ D := fun z => by rw [z, g1] at hp3; cases hp3
          refine CompI.push hD (e2.trans e3) (e3 _ _ g1) hlen ⟨us ++ [p], by rw [g3, List.map_append]; rfl, ?_⟩
          rw [step, td, if_pos (decide_eq_true hm)]
          refine TupsAt.snoc ((g4.up e3).upd (e3 _ _ g1)) ?_
          rw [upd_ne ne, hq3]
        · refine .inl ⟨hm, e2, acc, g1, g2, us, g3, ?_⟩
          rw [step, td, if_neg (by simp [hm]), List.append_nil]
          exact g4
    · obtain ⟨e2, acc, g1, g2, us, g3, g4⟩ := c
      subst g3
      rw [List.length_map, ht.1, List.take_length] at g4
      have nq : H D = none := by
        cases z : H D with
        | none => rfl
        | some o => rw [e _ _ z] at hD; cases hD
      exact k us D H' nq (e.trans e2) g1 g4
end
end Jk

namespace Jk
open PySem L2 Evl
def spInit (A : Adr) : Sp := fun vs H Q E => ∃ (p dx : Addr) (x : V), vs = [.ref p, x] ∧ H p = some (.ins A.c_Web dx []) ∧ Thing H x ∧
  (inR x 1 30 = false → E (.ref A.c_BadSize) none H) ∧
  (inR x 1 30 = true → ∀ l ds H', WebAt A.c_Web H' p l ds (List.replicate (iOf x).toNat []) → But [p] H H' → H l = none → (∀ d ∈ ds, H d = none) → Q .non H')
section
variable {P : Program} {w : World} {K : PySem.W.Frag} {mg : Str → Option Value} {base : Heap} {A : Adr}
theorem ok_Web_init (T : Txt K mg A) : FnOk P w K mg base (L2.CX P w) 2 A.a_Web_init A.d_Web_init ["self", "many"] (spInit A) := by
  refine T.F_Web_init.okX sc_Web_init (fun vs H Q E h => ?_) (fun cdv C outer s H vs Q E hr h => ?_)
  · obtain ⟨p, dx, x, rfl, _⟩ := h
    rfl
  · obtain ⟨p, dx, x, rfl, h1, tx, k1, k2⟩ := h
    refine ⟨_, (pss_cons (ps_if (pt_not (pt_val (pe_call (ok_whole_within T) (hr.mono (by decide)) rfl T.g_whole_within T.k_whole_within T.b_whole_within .nil pass0 (pa_cons (pv 1) (pa_cons pe_int (pa_cons (pe_glob (v := .int 30) rfl T.cMOST_POINTS.choose_spec ⟨_, rfl⟩) pa_nil))))))
    (pss_one (ps_raise rfl (takes_of rfl rfl rfl rfl) (pmk_own PySem.F.excBase_ValueError T.xBadSize T.gBadSize T.kBadSize (raises_own T.bBadSize T.tBadSize) rfl)))
    pss_nil)
  (pss_one (ps_fld (pv 0) (pe_lc (own := [("point", 2)]) rfl sc_Web_init.nd (pi_range1 rfl T.range (pa_cons (pv 1) pa_nil)) (blkOk_by (own := [("point", 2)]) (N := ["self", "many", "point"]) (sc := defScope s_Web_init) (by decide +kernel)) (fun _ _ _ _ _ => by exact (pg_name (i := 2) sc_Web_init.nd rfl (Or.inl rfl))) (fun _ _ _ _ _ => by exact pts_nil) (fun _ _ _ _ _ => by exact pe_dictJ)) rfl))), ?_⟩
    simp [L2.start, and_assoc, spWhole, tx]
    cases hx : inR x 1 30 with
    | false => simpa using k1 hx
    | true =>
      obtain ⟨i, rfl, i1, i30⟩ : ∃ i, x = .int i ∧ 1 ≤ i ∧ i ≤ 30 := by
        cases x with
        | int i => simp [inR] at hx; exact ⟨i, rfl, hx.1, hx.2⟩
        | _ => cases hx
      simp
      refine ⟨_, rfl, i, rfl, by omega, by omega, fun D hD => ?_⟩
      refine lc_range (lo := 0) (n := i.toNat) (CompI D H fun k acc H' => ∃ ds : List Addr, acc = ds.map V.ref ∧ ds.length = k ∧ ds.Nodup ∧ ∀ d ∈ ds, H' d = some (.dK []) ∧ H d = none) ⟨Ex.new hD, [], upd_same, by simp, [], rfl, rfl, List.nodup_nil, fun d z => nomatch z⟩ (fun k H' hk c => ?_) (fun H' c => ?_)
      · obtain ⟨e, acc, g1, g2, ds, g3, g4, g5, g6⟩ := c
        simp [wipe, tYes]
        intro d H2 hd e2 hd2
        have ne : d ≠ D := fun z => by rw [z, g1] at hd; cases hd
        refine CompI.push hD (e.trans e2) (e2 _ _ g1) (by rw [g3, List.length_map]; omega) ⟨ds ++ [d], by rw [g3, List.map_append]; rfl, by rw [List.length_append, g4]; rfl, nd_snoc g5 (fun z => by rw [(g6 d z).1] at hd; cases hd), fun d' z => ?_⟩
        rcases List.mem_append.mp z with z | z
        · have y := e2 _ _ (g6 d' z).1
          rw [upd_ne (ne_of y (e2 _ _ g1) (by intro q; cases q))]
          exact ⟨y, (g6 d' z).2⟩
        · have z' : d' = d := by simpa using z
          subst z'
          rw [upd_ne ne]
          exact ⟨hd2, fresh_back e hd⟩
      · obtain ⟨e, acc, g1, g2, ds, g3, g4, g5, g6⟩ := c
        have hp := e _ _ h1
        subst g3
        simp [and_assoc, hp, T.cl_Web, T.n_Web__near]
        have npD : D ≠ p := fun z => by rw [z, h1] at hD; cases hD
        refine k2 hx D ds _ ⟨⟨dx, upd_same⟩, by rw [upd_ne npD]; exact g1, g5, by rw [List.length_replicate, g4]; rfl, fun k d r a b => ?_⟩ ((But.of_ex e).updT (by simp)) hD (fun d z => (g6 d z).2)
        have hd := g6 d (List.mem_of_getElem? a)
        have er : r = [] := by
          have := List.mem_of_getElem? b
          exact (List.mem_replicate.mp this).2
        subst er
        rw [upd_ne (ne_of hd.1 hp (by intro z; cases z))]
        exact hd.1
end
end Jk

namespace Jk
open PySem L2 Evl
/-! ## the class of a refusal -/
section
variable {K : PySem.W.Frag} {σ : L2.St} {H : Hp} {ta tb : TE}
theorem el_lstJ {tr : TA} {vs : List V} (h : EvA tr σ H vs) (hl : vs.length ≤ 1000) : EvL (jLst tr) σ H vs := fun H1 e Q q =>
  h H1 e _ fun H2 e2 => ⟨hl, fun p H3 hp e3 h3 => q p H3 (fresh_back e2 hp) (e2.trans e3) h3⟩
theorem el_catJ {xs ys : List V} (ha : EvL ta σ H xs) (hb : EvL tb σ H ys) (z : xs.length + ys.length ≤ 100000) : EvL (tOp jCat ta tb) σ H (xs ++ ys) := fun H1 e Q q =>
  ha H1 e _ fun p H2 hp e2 h2 => hb H2 (e.trans e2) _ fun r H3 hr e3 h3 => ⟨p, r, xs, ys, rfl, rfl, e3 _ _ h2, h3, z, fun l H4 hl e4 h4 => q l H4 (fresh_back (e2.trans e3) hl) ((e2.trans e3).trans e4) h4⟩
theorem el_catV {p : Addr} {xs ys : List V} (ha : Ev ta σ H (.ref p)) (hx : H p = some (.lst xs)) (hb : EvL tb σ H ys) (z : xs.length + ys.length ≤ 100000) : EvL (tOp jCat ta tb) σ H (xs ++ ys) := fun H1 e Q q =>
  ha H1 e _ fun H2 e2 => hb H2 (e.trans e2) _ fun r H3 hr e3 h3 => ⟨p, r, xs, ys, rfl, rfl, ((e.trans e2).trans e3) _ _ hx, h3, z, fun l H4 hl e4 h4 => q l H4 (fresh_back (e2.trans e3) hl) ((e2.trans e3).trans e4) h4⟩
theorem el_repJ {xs : List V} {k : Int} (ha : EvL ta σ H xs) (hb : Ev tb σ H (.int k)) (h0 : 0 ≤ k ∧ k ≤ 1000) (z : xs.length ≤ 1000) : EvL (tOp jRep ta tb) σ H (List.replicate k.toNat xs).flatten := fun H1 e Q q =>
  ha H1 e _ fun p H2 hp e2 h2 => hb H2 (e.trans e2) _ fun H3 e3 => ⟨p, k, xs, rfl, rfl, e3 _ _ h2, h0.1, h0.2, z, fun l H4 hl e4 h4 => q l H4 (fresh_back (e2.trans e3) hl) ((e2.trans e3).trans e4) h4⟩
def rInt1 : List V → Hp → VK → Prop := fun xs H Q => (∃ i, xs = [.int i] ∧ Q (.int i) H) ∨ ∃ k, xs = [.bl k] ∧ Q (.int (if k then 1 else 0)) H
theorem ev_intb {b : Bool} (h : Ev ta σ H (.bl b)) : Ev (tCB rInt1 (tCons ta tNil)) σ H (.int (if b then 1 else 0)) := fun H1 e Q q =>
  h H1 e _ fun H2 e2 => .inr ⟨b, rfl, q H2 e2⟩
theorem ev_isX {a D : Addr} {c : V} {cv : Value} {b : Bool} (h0 : σ[0]? = some (some (.ref a))) (ha : H a = some (ExK (.ref D) none a)) (ec : ExcC K D) (hc : ClsV c cv) (hk : PySem.W.kitOne K (.ref D) cv = some b) :
    Ev (tCB (rIsX K) (tCons (tVar 0) (tCons (tC c) tNil))) σ H (.bl b) := fun H1 e Q q => ⟨_, h0, a, D, c, cv, b, rfl, e _ _ ha, ec, hc, hk, q H1 (Ex.refl H1)⟩
def pcV (w : Str) (b : Bool) : List V := if b then [.str w] else []
def pc (w : Str) (b : Bool) : List Str := if b then [w] else []
theorem pcV_eq (w : Str) (b : Bool) : pcV w b = (pc w b).map V.str := by cases b <;> rfl
theorem pcV_len (w : Str) (b : Bool) : (pcV w b).length ≤ 1 := by cases b <;> simp [pcV]
theorem el_piece {w : Str} {b : Bool} (h : Ev ta σ H (.bl b)) : EvL (tOp jRep (jLst (tCons (tC (.str w)) tNil)) (tCB rInt1 (tCons ta tNil))) σ H (pcV w b) := by
  have z := el_repJ (el_lstJ (ea_cons (ev_c (v := .str w)) ea_nil) (by simp)) (ev_intb h) (by cases b <;> simp) (by simp)
  cases b <;> simpa [pcV] using z
end
def kinds (A : Adr) : List (Addr × Str) := [(A.c_BadSize, "size"), (A.c_BadPoint, "point"), (A.c_Twice, "twice"), (A.c_NoTie, "no tie"), (A.c_TooMany, "many")]
def spKind (A : Adr) : Sp := fun vs H Q _ => ∃ (a D : Addr) (z : Str), vs = [.ref a] ∧ H a = some (ExK (.ref D) none a) ∧ (D, z) ∈ kinds A ∧ ∀ H', Ex H H' → Q (.str z) H'
section
variable {P : Program} {w : World} {K : PySem.W.Frag} {mg : Str → Option Value} {base : Heap} {A : Adr}
def allPc (b1 b2 b3 b4 b5 b6 b7 b8 b9 : Bool) : List Str := ((((((((pc "size" b1 ++ pc "point" b2) ++ pc "twice" b3) ++ pc "no tie" b4) ++ pc "many" b5) ++ pc "row" b6) ++ pc "tree" b7) ++ pc "text" b8) ++ pc "base" (!b9))
structure Asked (K : PySem.W.Frag) (A : Adr) (D : Addr) (z : Str) (b1 b2 b3 b4 b5 b6 b7 b8 b9 : Bool) : Prop where
  ec : ExcC K D
  h1 : PySem.W.kitOne K (.ref D) (.ref A.c_BadSize) = some b1
  h2 : PySem.W.kitOne K (.ref D) (.ref A.c_BadPoint) = some b2
  h3 : PySem.W.kitOne K (.ref D) (.ref A.c_Twice) = some b3
  h4 : PySem.W.kitOne K (.ref D) (.ref A.c_NoTie) = some b4
  h5 : PySem.W.kitOne K (.ref D) (.ref A.c_TooMany) = some b5
  h6 : PySem.W.kitOne K (.ref D) (.ref A.c_NoTree) = some b6
  h7 : PySem.W.kitOne K (.ref D) (.ref A.c_BadTree) = some b7
  h8 : PySem.W.kitOne K (.ref D) (.ref A.c_BadText) = some b8
  h9 : PySem.W.kitOne K (.ref D) (.type "ValueError") = some b9
  all : Txt.join "/" (allPc b1 b2 b3 b4 b5 b6 b7 b8 b9) = z
  len : ((allPc b1 b2 b3 b4 b5 b6 b7 b8 b9).map (fun y => y.length)).sum + (allPc b1 b2 b3 b4 b5 b6 b7 b8 b9).length ≤ 1000
theorem asked_of (T : Txt K mg A) {D : Addr} {z : Str} (h : (D, z) ∈ kinds A) : ∃ b1 b2 b3 b4 b5 b6 b7 b8 b9, Asked K A D z b1 b2 b3 b4 b5 b6 b7 b8 b9 := by
  unfold kinds at h
  simp only [List.mem_cons, Prod.mk.injEq, List.not_mem_nil, or_false] at h
  rcases h with ⟨rfl, rfl⟩ | ⟨rfl, rfl⟩ | ⟨rfl, rfl⟩ | ⟨rfl, rfl⟩ | ⟨rfl, rfl⟩
  · exact ⟨_, _, _, _, _, _, _, _, _, T.ec_BadSize, T.is_BadSize_BadSize, T.is_BadSize_BadPoint, T.is_BadSize_Twice, T.is_BadSize_NoTie, T.is_BadSize_TooMany, T.is_BadSize_NoTree, T.is_BadSize_BadTree, T.is_BadSize_BadText, T.is_BadSize_ValueError, by decide +kernel, by decide +kernel⟩
  · exact ⟨_, _, _, _, _, _, _, _, _, T.ec_BadPoint, T.is_BadPoint_BadSize, T.is_BadPoint_BadPoint, T.is_BadPoint_Twice, T.is_BadPoint_NoTie, T.is_BadPoint_TooMany, T.is_BadPoint_NoTree, T.is_BadPoint_BadTree, T.is_BadPoint_BadText, T.is_BadPoint_ValueError, by decide +kernel, by decide +kernel⟩
  · exact ⟨_, _, _, _, _, _, _, _, _, T.ec_Twice, T.is_Twice_BadSize, T.is_Twice_BadPoint, T.is_Twice_Twice, T.is_Twice_NoTie, T.is_Twice_TooMany, T.is_Twice_NoTree, T.is_Twice_BadTree, T.is_Twice_BadText, T.is_Twice_ValueError, by decide +kernel, by decide +kernel⟩
  · exact ⟨_, _, _, _, _, _, _, _, _, T.ec_NoTie, T.is_NoTie_BadSize, T.is_NoTie_BadPoint, T.is_NoTie_Twice, T.is_NoTie_NoTie, T.is_NoTie_TooMany, T.is_NoTie_NoTree, T.is_NoTie_BadTree, T.is_NoTie_BadText, T.is_NoTie_ValueError, by decide +kernel, by decide +kernel⟩
  · exact ⟨_, _, _, _, _, _, _, _, _, T.ec_TooMany, T.is_TooMany_BadSize, T.is_TooMany_BadPoint, T.is_TooMany_Twice, T.is_TooMany_NoTie, T.is_TooMany_TooMany, T.is_TooMany_NoTree, T.is_TooMany_BadTree, T.is_TooMany_BadText, T.is_TooMany_ValueError, by decide +kernel, by decide +kernel⟩
theorem ok_l_kind (T : Txt K mg A) : FnOk P w K mg base CX0 1 A.a_l_kind A.d_l_kind ["_law_e"] (spKind A) := by
  refine T.F_l_kind.ok sc_l_kind (fun vs H Q E h => ?_) (fun cdv C outer s H vs Q E hr h => ?_)
  · obtain ⟨a, D, z, rfl, _⟩ := h
    rfl
  · obtain ⟨a, D, z, rfl, ha, hm, k⟩ := h
    obtain ⟨b1, b2, b3, b4, b5, b6, b7, b8, b9, S⟩ := asked_of T hm
    refine ⟨_, (pss_cons (ps_set (i := 1) sc_l_kind.nd rfl (Or.inl rfl) (pe_op op_catJ (pe_op op_repJ (pe_lstJ (pa_cons pe_str pa_nil)) (pe_callTy call_int1 (by rfl) T.int (by decide +kernel) (pa_cons (pe_callB call_isX (by rfl) T.isinstance (by decide +kernel) (pa_cons (pv 0) (pa_cons (pe_glob (v := .ref A.c_BadSize) rfl T.gBadSize rfl) pa_nil))) pa_nil))) (pe_op op_repJ (pe_lstJ (pa_cons pe_str pa_nil)) (pe_callTy call_int1 (by rfl) T.int (by decide +kernel) (pa_cons (pe_callB call_isX (by rfl) T.isinstance (by decide +kernel) (pa_cons (pv 0) (pa_cons (pe_glob (v := .ref A.c_BadPoint) rfl T.gBadPoint rfl) pa_nil))) pa_nil)))))
  (pss_cons (ps_set (i := 1) sc_l_kind.nd rfl (Or.inl rfl) (pe_op op_catJ (pe_op op_catJ (pv 1) (pe_op op_repJ (pe_lstJ (pa_cons pe_str pa_nil)) (pe_callTy call_int1 (by rfl) T.int (by decide +kernel) (pa_cons (pe_callB call_isX (by rfl) T.isinstance (by decide +kernel) (pa_cons (pv 0) (pa_cons (pe_glob (v := .ref A.c_Twice) rfl T.gTwice rfl) pa_nil))) pa_nil)))) (pe_op op_repJ (pe_lstJ (pa_cons pe_str pa_nil)) (pe_callTy call_int1 (by rfl) T.int (by decide +kernel) (pa_cons (pe_callB call_isX (by rfl) T.isinstance (by decide +kernel) (pa_cons (pv 0) (pa_cons (pe_glob (v := .ref A.c_NoTie) rfl T.gNoTie rfl) pa_nil))) pa_nil)))))
  (pss_cons (ps_set (i := 1) sc_l_kind.nd rfl (Or.inl rfl) (pe_op op_catJ (pe_op op_catJ (pv 1) (pe_op op_repJ (pe_lstJ (pa_cons pe_str pa_nil)) (pe_callTy call_int1 (by rfl) T.int (by decide +kernel) (pa_cons (pe_callB call_isX (by rfl) T.isinstance (by decide +kernel) (pa_cons (pv 0) (pa_cons (pe_glob (v := .ref A.c_TooMany) rfl T.gTooMany rfl) pa_nil))) pa_nil)))) (pe_op op_repJ (pe_lstJ (pa_cons pe_str pa_nil)) (pe_callTy call_int1 (by rfl) T.int (by decide +kernel) (pa_cons (pe_callB call_isX (by rfl) T.isinstance (by decide +kernel) (pa_cons (pv 0) (pa_cons (pe_glob (v := .ref A.c_NoTree) rfl T.gNoTree rfl) pa_nil))) pa_nil)))))
  (pss_cons (ps_set (i := 1) sc_l_kind.nd rfl (Or.inl rfl) (pe_op op_catJ (pe_op op_catJ (pv 1) (pe_op op_repJ (pe_lstJ (pa_cons pe_str pa_nil)) (pe_callTy call_int1 (by rfl) T.int (by decide +kernel) (pa_cons (pe_callB call_isX (by rfl) T.isinstance (by decide +kernel) (pa_cons (pv 0) (pa_cons (pe_glob (v := .ref A.c_BadTree) rfl T.gBadTree rfl) pa_nil))) pa_nil)))) (pe_op op_repJ (pe_lstJ (pa_cons pe_str pa_nil)) (pe_callTy call_int1 (by rfl) T.int (by decide +kernel) (pa_cons (pe_callB call_isX (by rfl) T.isinstance (by decide +kernel) (pa_cons (pv 0) (pa_cons (pe_glob (v := .ref A.c_BadText) rfl T.gBadText rfl) pa_nil))) pa_nil)))))
  (pss_one (ps_ret (pe_join pe_str (pe_op op_catJ (pv 1) (pe_op op_repJ (pe_lstJ (pa_cons pe_str pa_nil)) (pe_callTy call_int1 (by rfl) T.int (by decide +kernel) (pa_cons (pe_not (pe_callB call_isX (by rfl) T.isinstance (by decide +kernel) (pa_cons (pv 0) (pa_cons (pe_bltn (v := .ty "ValueError") (u := .type "ValueError") (by rfl) T.ValueError (by decide +kernel) rfl) pa_nil)))) pa_nil))))))))))), ?_⟩
    refine q_asgL (el_catJ (el_piece (ev_isX rfl ha S.ec (.own _) S.h1)) (el_piece (ev_isX rfl ha S.ec (.own _) S.h2)) ?_) (fun p1 H1 n1 e1 g1 => ?_)
    · have := pcV_len "size" b1; have := pcV_len "point" b2; omega
    have a1 := e1 _ _ ha
    have l1 : ∀ (w : Str) (b : Bool), (pcV w b).length ≤ 1 := pcV_len
    refine q_asgL (el_catJ (el_catV (ev_var rfl) g1 (el_piece (ev_isX rfl a1 S.ec (.own _) S.h3)) ?_) (el_piece (ev_isX rfl a1 S.ec (.own _) S.h4)) ?_) (fun p2 H2 n2 e2 g2 => ?_)
    · simp only [List.length_append]; have := l1 "size" b1; have := l1 "point" b2; have := l1 "twice" b3; omega
    · simp only [List.length_append]; have := l1 "size" b1; have := l1 "point" b2; have := l1 "twice" b3; have := l1 "no tie" b4; omega
    have a2 := e2 _ _ a1
    refine q_asgL (el_catJ (el_catV (ev_var rfl) g2 (el_piece (ev_isX rfl a2 S.ec (.own _) S.h5)) ?_) (el_piece (ev_isX rfl a2 S.ec (.own _) S.h6)) ?_) (fun p3 H3 n3 e3 g3 => ?_)
    · simp only [List.length_append]; have := l1 "size" b1; have := l1 "point" b2; have := l1 "twice" b3; have := l1 "no tie" b4; have := l1 "many" b5; omega
    · simp only [List.length_append]; have := l1 "size" b1; have := l1 "point" b2; have := l1 "twice" b3; have := l1 "no tie" b4; have := l1 "many" b5; have := l1 "row" b6; omega
    have a3 := e3 _ _ a2
    refine q_asgL (el_catJ (el_catV (ev_var rfl) g3 (el_piece (ev_isX rfl a3 S.ec (.own _) S.h7)) ?_) (el_piece (ev_isX rfl a3 S.ec (.own _) S.h8)) ?_) (fun p4 H4 n4 e4 g4 => ?_)
    · simp only [List.length_append]; have := l1 "size" b1; have := l1 "point" b2; have := l1 "twice" b3; have := l1 "no tie" b4; have := l1 "many" b5; have := l1 "row" b6; have := l1 "tree" b7; omega
    · simp only [List.length_append]; have := l1 "size" b1; have := l1 "point" b2; have := l1 "twice" b3; have := l1 "no tie" b4; have := l1 "many" b5; have := l1 "row" b6; have := l1 "tree" b7; have := l1 "text" b8; omega
    have a4 := e4 _ _ a3
    refine ⟨⟨_, rfl⟩, el_catV (ev_var rfl) g4 (el_piece (ev_notV (ev_isX rfl a4 S.ec (.ty _) S.h9))) ?_ H4 (Ex.refl _) _ fun p5 H5 n5 e5 g5 => ?_⟩
    · simp only [List.length_append]; have := l1 "size" b1; have := l1 "point" b2; have := l1 "twice" b3; have := l1 "no tie" b4; have := l1 "many" b5; have := l1 "row" b6; have := l1 "tree" b7; have := l1 "text" b8; have := l1 "base" (!b9); omega
    refine ⟨"/", p5, allPc b1 b2 b3 b4 b5 b6 b7 b8 b9, rfl, rfl, .inl (.inl (.inl ?_)), ?_, ?_⟩
    · rw [g5]
      simp only [allPc, List.map_append, pcV_eq]
    · have := S.len
      have e : (Str.ofString "/").length = 1 := by decide +kernel
      rw [e, Nat.mul_one]
      exact Nat.le_trans this (by decide)
    · rw [S.all]
      exact k _ ((((e1.trans e2).trans e3).trans e4).trans e5)
end
end Jk

namespace Jk
open PySem L2 Evl
/-! ## webs and ties, as they are counted -/
theorem getD_set (rows : List (List Int)) (i k : Nat) (x : List Int) (hi : i < rows.length) : (rows.set i x).getD k [] = if k = i then x else rows.getD k [] := by
  by_cases h : k = i
  · subst h
    rw [if_pos rfl, List.getD_eq_getElem?_getD, List.getElem?_set_self hi]; rfl
  · rw [if_neg h, List.getD_eq_getElem?_getD, List.getElem?_set_ne (Ne.symm h), ← List.getD_eq_getElem?_getD]
theorem getD_mem {rows : List (List Int)} {i : Nat} (h : i < rows.length) : rows.getD i [] ∈ rows := by
  rw [List.getD_eq_getElem?_getD, List.getElem?_eq_getElem h]
  exact List.getElem_mem h
theorem getD_far {rows : List (List Int)} {i : Nat} (h : ¬ i < rows.length) : rows.getD i [] = [] := by
  rw [List.getD_eq_getElem?_getD, List.getElem?_eq_none (by omega)]; rfl
structure Good (rows : List (List Int)) : Prop where
  one : 1 ≤ rows.length
  few : rows.length ≤ 30
  sy : Sym rows
  nd : ∀ i : Nat, (rows.getD i []).Nodup
  rng : ∀ (i : Nat) (j : Int), j ∈ rows.getD i [] → 0 ≤ j ∧ j < rows.length
  irr : ∀ i : Nat, ¬ (i : Int) ∈ rows.getD i []
def tN (rows : List (List Int)) (i j : Nat) : Prop := (j : Int) ∈ rows.getD i []
theorem tied_iff (rows : List (List Int)) (i j : Nat) : tied rows i j = true ↔ tN rows i j := by
  unfold tied tN
  rw [decide_eq_true_iff]
  rfl
theorem len_putR (rows : List (List Int)) (i j : Nat) : (putR rows i j).length = rows.length := by unfold putR; rw [List.length_set, List.length_set]
theorem len_takeR (rows : List (List Int)) (i j : Nat) : (takeR rows i j).length = rows.length := by unfold takeR; rw [List.length_set, List.length_set]
theorem putR_at (rows : List (List Int)) (i j k : Nat) (hi : i < rows.length) (hj : j < rows.length) : (putR rows i j).getD k [] = if k = j then rows.getD j [] ++ [(i : Int)] else if k = i then rows.getD i [] ++ [(j : Int)] else rows.getD k [] := by
  unfold putR
  rw [getD_set _ _ _ _ (by rw [List.length_set]; exact hj), getD_set _ _ _ _ hi]
theorem takeR_at (rows : List (List Int)) (i j k : Nat) (hi : i < rows.length) (hj : j < rows.length) : (takeR rows i j).getD k [] = if k = j then (rows.getD j []).filter (fun z => decide (z ≠ (i : Int))) else if k = i then (rows.getD i []).filter (fun z => decide (z ≠ (j : Int))) else rows.getD k [] := by
  unfold takeR
  rw [getD_set _ _ _ _ (by rw [List.length_set]; exact hj), getD_set _ _ _ _ hi]
theorem tN_put {rows : List (List Int)} {i j : Nat} (hi : i < rows.length) (hj : j < rows.length) (hij : i ≠ j) (a b : Nat) : tN (putR rows i j) a b ↔ tN rows a b ∨ (a = i ∧ b = j) ∨ (a = j ∧ b = i) := by
  unfold tN
  rw [putR_at _ _ _ _ hi hj]
  by_cases h1 : a = j
  · subst h1
    rw [if_pos rfl, List.mem_append, List.mem_singleton]
    constructor
    · rintro (h | h)
      · exact .inl h
      · exact .inr (.inr ⟨rfl, by omega⟩)
    · rintro (h | ⟨h, _⟩ | ⟨_, h⟩)
      · exact .inl h
      · exact absurd h.symm hij
      · exact .inr (by omega)
  · rw [if_neg h1]
    by_cases h2 : a = i
    · subst h2
      rw [if_pos rfl, List.mem_append, List.mem_singleton]
      constructor
      · rintro (h | h)
        · exact .inl h
        · exact .inr (.inl ⟨rfl, by omega⟩)
      · rintro (h | ⟨_, h⟩ | ⟨h, _⟩)
        · exact .inl h
        · exact .inr (by omega)
        · exact absurd h h1
    · rw [if_neg h2]
      constructor
      · exact .inl
      · rintro (h | ⟨h, _⟩ | ⟨h, _⟩)
        · exact h
        · exact absurd h h2
        · exact absurd h h1
theorem tN_take {rows : List (List Int)} {i j : Nat} (hi : i < rows.length) (hj : j < rows.length) (hij : i ≠ j) (a b : Nat) : tN (takeR rows i j) a b ↔ tN rows a b ∧ ¬ (a = i ∧ b = j) ∧ ¬ (a = j ∧ b = i) := by
  unfold tN
  rw [takeR_at _ _ _ _ hi hj]
  by_cases h1 : a = j
  · subst h1
    rw [if_pos rfl, List.mem_filter, decide_eq_true_iff]
    constructor
    · rintro ⟨h, h'⟩
      exact ⟨h, fun ⟨q, _⟩ => hij q.symm, fun ⟨_, q⟩ => h' (by omega)⟩
    · rintro ⟨h, _, h'⟩
      exact ⟨h, fun q => h' ⟨rfl, by omega⟩⟩
  · rw [if_neg h1]
    by_cases h2 : a = i
    · subst h2
      rw [if_pos rfl, List.mem_filter, decide_eq_true_iff]
      constructor
      · rintro ⟨h, h'⟩
        exact ⟨h, fun ⟨_, q⟩ => h' (by omega), fun ⟨q, _⟩ => h1 q⟩
      · rintro ⟨h, h', _⟩
        exact ⟨h, fun q => h' ⟨rfl, by omega⟩⟩
    · rw [if_neg h2]
      exact ⟨fun h => ⟨h, fun ⟨q, _⟩ => h2 q, fun ⟨q, _⟩ => h1 q⟩, fun h => h.1⟩
theorem nd_add {l : List Int} {x : Int} (h : l.Nodup) (hx : ¬ x ∈ l) : (l ++ [x]).Nodup := nd_snoc h hx
theorem Good.lt {rows : List (List Int)} (G : Good rows) {i j : Nat} (h : tN rows i j) : i < rows.length ∧ j < rows.length := by
  have hi : i < rows.length := by
    by_cases q : i < rows.length
    · exact q
    · unfold tN at h; rw [getD_far q] at h; cases h
  have := (G.rng i j h).2
  exact ⟨hi, by omega⟩
theorem Good.symm {rows : List (List Int)} (G : Good rows) {i j : Nat} (h : tN rows i j) : tN rows j i := (G.sy i j (G.lt h).1 (G.lt h).2).mp h
theorem good_put {rows : List (List Int)} (G : Good rows) {i j : Nat} (hi : i < rows.length) (hj : j < rows.length) (hij : i ≠ j) (h : ¬ tN rows i j) : Good (putR rows i j) := by
  have h' : ¬ tN rows j i := fun z => h (G.symm z)
  refine ⟨by rw [len_putR]; exact G.one, by rw [len_putR]; exact G.few, fun a b ha hb => ?_, fun a => ?_, fun a b hb => ?_, fun a ha => ?_⟩
  · show tN _ a b ↔ tN _ b a
    rw [len_putR] at ha hb
    rw [tN_put hi hj hij, tN_put hi hj hij]
    have := G.sy a b ha hb
    have t : tN rows a b ↔ tN rows b a := this
    rw [t]
    constructor <;> rintro (q | ⟨q, r⟩ | ⟨q, r⟩) <;> first | exact .inl q | exact .inr (.inl ⟨r, q⟩) | exact .inr (.inr ⟨r, q⟩)
  · rw [putR_at _ _ _ _ hi hj]
    split
    · exact nd_add (G.nd j) h'
    · split
      · exact nd_add (G.nd i) h
      · exact G.nd a
  · rw [len_putR]
    rw [putR_at _ _ _ _ hi hj] at hb
    split at hb
    · rcases List.mem_append.mp hb with q | q
      · exact G.rng j b q
      · have : b = (i : Int) := by simpa using q
        omega
    · split at hb
      · rcases List.mem_append.mp hb with q | q
        · exact G.rng i b q
        · have : b = (j : Int) := by simpa using q
          omega
      · exact G.rng a b hb
  · have ha' : tN (putR rows i j) a a := ha
    rw [tN_put hi hj hij] at ha'
    rcases ha' with q | ⟨q, r⟩ | ⟨q, r⟩
    · exact G.irr a q
    · exact hij (q.symm.trans r)
    · exact hij (r.symm.trans q)
theorem good_take {rows : List (List Int)} (G : Good rows) {i j : Nat} (hi : i < rows.length) (hj : j < rows.length) (hij : i ≠ j) : Good (takeR rows i j) := by
  refine ⟨by rw [len_takeR]; exact G.one, by rw [len_takeR]; exact G.few, fun a b ha hb => ?_, fun a => ?_, fun a b hb => ?_, fun a ha => ?_⟩
  · show tN _ a b ↔ tN _ b a
    rw [len_takeR] at ha hb
    rw [tN_take hi hj hij, tN_take hi hj hij]
    have t : tN rows a b ↔ tN rows b a := G.sy a b ha hb
    rw [t]
    constructor <;> rintro ⟨q, r, s⟩ <;> exact ⟨q, fun z => s ⟨z.2, z.1⟩, fun z => r ⟨z.2, z.1⟩⟩
  · rw [takeR_at _ _ _ _ hi hj]
    split
    · exact (G.nd j).sublist List.filter_sublist
    · split
      · exact (G.nd i).sublist List.filter_sublist
      · exact G.nd a
  · rw [len_takeR]
    rw [takeR_at _ _ _ _ hi hj] at hb
    split at hb
    · exact G.rng j b (List.mem_filter.mp hb).1
    · split at hb
      · exact G.rng i b (List.mem_filter.mp hb).1
      · exact G.rng a b hb
  · have ha' : tN (takeR rows i j) a a := ha
    rw [tN_take hi hj hij] at ha'
    exact G.irr a ha'.1
theorem grow_at (rows : List (List Int)) (k : Nat) : (rows ++ [[]]).getD k [] = rows.getD k [] := by
  by_cases h : k < rows.length
  · rw [List.getD_eq_getElem?_getD, List.getElem?_append_left h, ← List.getD_eq_getElem?_getD]
  · rw [getD_far h, List.getD_eq_getElem?_getD, List.getElem?_append_right (by omega)]
    cases k - rows.length with
    | zero => rfl
    | succ n => rfl
theorem good_grow {rows : List (List Int)} (G : Good rows) (h : rows.length < 30) : Good (rows ++ [[]]) := by
  have e : (rows ++ [[]]).length = rows.length + 1 := by simp
  refine ⟨by omega, by omega, fun a b _ _ => ?_, fun a => by rw [grow_at]; exact G.nd a, fun a b hb => ?_, fun a => by rw [grow_at]; exact G.irr a⟩
  · rw [grow_at, grow_at]
    exact ⟨fun z => G.symm z, fun z => G.symm z⟩
  · rw [grow_at] at hb
    have := G.rng a b hb
    omega
theorem good_init {n : Nat} (h1 : 1 ≤ n) (h2 : n ≤ 30) : Good (List.replicate n []) := by
  have e : ∀ k : Nat, (List.replicate n ([] : List Int)).getD k [] = [] := fun k => by
    rw [List.getD_eq_getElem?_getD, List.getElem?_replicate]
    split <;> rfl
  refine ⟨by simpa using h1, by simpa using h2, fun a b _ _ => ?_, fun a => ?_, fun a b hb => ?_, fun a ha => ?_⟩
  · rw [e, e]; simp
  · rw [e]; exact List.nodup_nil
  · rw [e] at hb; cases hb
  · rw [e] at ha; cases ha
/-! the law's own ties -/
structure Rel (rows : List (List Int)) (n : Int) (ties : List (Int × Int)) : Prop where
  n : n = (rows.length : Int)
  nd : ties.Nodup
  ti : ∀ p : Int × Int, p ∈ ties ↔ ∃ i j : Nat, p = ((i : Int), (j : Int)) ∧ i < j ∧ tN rows i j
theorem pairs_iff {n : Nat} {p : Int × Int} : p ∈ pairsL n ↔ ∃ i j : Nat, p = ((i : Int), (j : Int)) ∧ i < j ∧ j < n := by
  refine ⟨pairs_in, ?_⟩
  rintro ⟨i, j, rfl, h1, h2⟩
  unfold pairsL rowP
  refine List.mem_flatMap.mpr ⟨i, List.mem_range.mpr (by omega), List.mem_map.mpr ⟨j - (i + 1), List.mem_range.mpr (by omega), ?_⟩⟩
  rw [show i + 1 + (j - (i + 1)) = j by omega]
def lexLt (p q : Int × Int) : Prop := p.1 < q.1 ∨ (p.1 = q.1 ∧ p.2 < q.2)
theorem pairs_sorted (n : Nat) : (pairsL n).Pairwise lexLt := by
  unfold pairsL
  rw [List.pairwise_flatMap]
  refine ⟨fun i _ => ?_, ?_⟩
  · unfold rowP
    rw [List.pairwise_map]
    refine List.Pairwise.imp ?_ List.pairwise_lt_range
    intro a b h
    exact .inr ⟨rfl, by show ((i + 1 + a : Nat) : Int) < ((i + 1 + b : Nat) : Int); omega⟩
  · refine List.Pairwise.imp ?_ List.pairwise_lt_range
    intro a b h x hx y hy
    unfold rowP at hx hy
    obtain ⟨_, _, rfl⟩ := List.mem_map.mp hx
    obtain ⟨_, _, rfl⟩ := List.mem_map.mp hy
    exact .inl (by show (a : Int) < b; omega)
theorem lexLt_ne {p q : Int × Int} (h : lexLt p q) : p ≠ q := by
  intro e
  subst e
  unfold lexLt at h
  omega
theorem ties_sorted (rows : List (List Int)) : (tiesL rows).Pairwise lexLt := (pairs_sorted _).sublist List.filter_sublist
theorem ties_nd (rows : List (List Int)) : (tiesL rows).Nodup := (ties_sorted rows).imp lexLt_ne
theorem ties_iff {rows : List (List Int)} (G : Good rows) {p : Int × Int} : p ∈ tiesL rows ↔ ∃ i j : Nat, p = ((i : Int), (j : Int)) ∧ i < j ∧ tN rows i j := by
  unfold tiesL
  rw [List.mem_filter, pairs_iff]
  constructor
  · rintro ⟨⟨i, j, rfl, h1, h2⟩, h3⟩
    exact ⟨i, j, rfl, h1, (tied_iff rows i j).mp h3⟩
  · rintro ⟨i, j, rfl, h1, h2⟩
    exact ⟨⟨i, j, rfl, h1, (G.lt h2).2⟩, (tied_iff rows i j).mpr h2⟩
theorem Rel.perm {rows : List (List Int)} {n : Int} {ties : List (Int × Int)} (G : Good rows) (R : Rel rows n ties) : ties.Perm (tiesL rows) :=
  (List.perm_ext_iff_of_nodup R.nd (ties_nd rows)).mpr fun p => by rw [R.ti, ties_iff G]
theorem lexLe_anti {p q : Int × Int} (h1 : lexLe p q) (h2 : lexLe q p) : p = q := by
  unfold lexLe at h1 h2
  exact Prod.ext (by omega) (by omega)
theorem sorted_ties {rows : List (List Int)} {n : Int} {ties qs : List (Int × Int)} (G : Good rows) (R : Rel rows n ties) (hp : qs.Perm ties) (hs : qs.Pairwise lexLe) : qs = tiesL rows :=
  List.Perm.eq_of_pairwise (fun a b _ _ h1 h2 => lexLe_anti h1 h2) hs ((ties_sorted rows).imp fun h => by unfold lexLt at h; unfold lexLe; omega) (hp.trans (R.perm G))
theorem Rel.few {rows : List (List Int)} {n : Int} {ties : List (Int × Int)} (G : Good rows) (R : Rel rows n ties) : ties.length ≤ 900 := by
  rw [(R.perm G).length_eq]
  have z1 : (tiesL rows).length ≤ (pairsL rows.length).length := List.length_filter_le _ _
  have z2 := rows_len rows.length rows.length
  have z3 : rows.length * rows.length ≤ 30 * 30 := Nat.mul_le_mul G.few G.few
  have z5 : (pairsL rows.length).length ≤ rows.length * rows.length := z2
  omega
theorem rel_init {n : Nat} : Rel (List.replicate n []) (n : Int) [] := by
  refine ⟨by simp, List.nodup_nil, fun p => ⟨fun h => (by cases h), ?_⟩⟩
  rintro ⟨i, j, _, _, h⟩
  unfold tN at h
  rw [List.getD_eq_getElem?_getD, List.getElem?_replicate] at h
  split at h <;> cases h
def tieN (i j : Nat) : Int × Int := (((min i j : Nat) : Int), ((max i j : Nat) : Int))
theorem Rel.tie {rows : List (List Int)} {n : Int} {ties : List (Int × Int)} (G : Good rows) (R : Rel rows n ties) {i j : Nat} (hij : i ≠ j) : tieN i j ∈ ties ↔ tN rows i j := by
  rw [R.ti]
  constructor
  · rintro ⟨a, b, e, h1, h2⟩
    have e1 : ((min i j : Nat) : Int) = a := (Prod.mk.inj e).1
    have e2 : ((max i j : Nat) : Int) = b := (Prod.mk.inj e).2
    by_cases h : i < j
    · rw [show i = a by omega, show j = b by omega]; exact h2
    · rw [show i = b by omega, show j = a by omega]; exact G.symm h2
  · intro h
    by_cases q : i < j
    · exact ⟨i, j, Prod.ext (by show ((min i j : Nat) : Int) = i; omega) (by show ((max i j : Nat) : Int) = j; omega), q, h⟩
    · exact ⟨j, i, Prod.ext (by show ((min i j : Nat) : Int) = j; omega) (by show ((max i j : Nat) : Int) = i; omega), by omega, G.symm h⟩
theorem rel_put {rows : List (List Int)} {n : Int} {ties : List (Int × Int)} (G : Good rows) (R : Rel rows n ties) {i j : Nat} (hi : i < rows.length) (hj : j < rows.length) (hij : i ≠ j) (h : ¬ tN rows i j) : Rel (putR rows i j) n (ties ++ [tieN i j]) := by
  refine ⟨by rw [len_putR]; exact R.n, nd_snoc R.nd fun z => h ((R.tie G hij).mp z), fun p => ?_⟩
  rw [List.mem_append, R.ti, List.mem_singleton]
  constructor
  · rintro (⟨a, b, rfl, h1, h2⟩ | rfl)
    · exact ⟨a, b, rfl, h1, (tN_put hi hj hij a b).mpr (.inl h2)⟩
    · refine ⟨min i j, max i j, rfl, by omega, (tN_put hi hj hij _ _).mpr ?_⟩
      by_cases q : i < j
      · exact .inr (.inl ⟨by omega, by omega⟩)
      · exact .inr (.inr ⟨by omega, by omega⟩)
  · rintro ⟨a, b, rfl, h1, h2⟩
    rcases (tN_put hi hj hij a b).mp h2 with q | ⟨rfl, rfl⟩ | ⟨rfl, rfl⟩
    · exact .inl ⟨a, b, rfl, h1, q⟩
    · exact .inr (Prod.ext (by show (a : Int) = ((min a b : Nat) : Int); omega) (by show (b : Int) = ((max a b : Nat) : Int); omega))
    · exact .inr (Prod.ext (by show (a : Int) = ((min b a : Nat) : Int); omega) (by show (b : Int) = ((max b a : Nat) : Int); omega))
theorem rel_take {rows : List (List Int)} {n : Int} {ties : List (Int × Int)} (R : Rel rows n ties) {i j : Nat} (hi : i < rows.length) (hj : j < rows.length) (hij : i ≠ j) : Rel (takeR rows i j) n (ties.filter fun p => decide (p ≠ tieN i j)) := by
  refine ⟨by rw [len_takeR]; exact R.n, R.nd.sublist List.filter_sublist, fun p => ?_⟩
  rw [List.mem_filter, R.ti, decide_eq_true_iff]
  constructor
  · rintro ⟨⟨a, b, rfl, h1, h2⟩, h3⟩
    refine ⟨a, b, rfl, h1, (tN_take hi hj hij a b).mpr ⟨h2, fun ⟨q, r⟩ => h3 ?_, fun ⟨q, r⟩ => h3 ?_⟩⟩
    · subst q r
      exact Prod.ext (by show (a : Int) = ((min a b : Nat) : Int); omega) (by show (b : Int) = ((max a b : Nat) : Int); omega)
    · subst q r
      exact Prod.ext (by show (a : Int) = ((min b a : Nat) : Int); omega) (by show (b : Int) = ((max b a : Nat) : Int); omega)
  · rintro ⟨a, b, rfl, h1, h2⟩
    obtain ⟨q, r, s⟩ := (tN_take hi hj hij a b).mp h2
    refine ⟨⟨a, b, rfl, h1, q⟩, fun z => ?_⟩
    have e1 : (a : Int) = ((min i j : Nat) : Int) := (Prod.mk.inj z).1
    have e2 : (b : Int) = ((max i j : Nat) : Int) := (Prod.mk.inj z).2
    by_cases h : i < j
    · exact r ⟨by omega, by omega⟩
    · exact s ⟨by omega, by omega⟩
theorem rel_grow {rows : List (List Int)} {n : Int} {ties : List (Int × Int)} (R : Rel rows n ties) : Rel (rows ++ [[]]) (n + 1) ties := by
  refine ⟨by rw [R.n]; simp, R.nd, fun p => ?_⟩
  rw [R.ti]
  unfold tN
  simp only [grow_at]
/-! rows are short -/
theorem Good.row {rows : List (List Int)} (G : Good rows) (i : Nat) : (rows.getD i []).length ≤ 30 := by
  have e : (rows.getD i []).Perm (((List.range rows.length).map fun (k : Nat) => (k : Int)).filter fun z => decide (z ∈ rows.getD i [])) := by
    refine (List.perm_ext_iff_of_nodup (G.nd i) ?_).mpr fun z => ?_
    · refine List.Pairwise.sublist List.filter_sublist ?_
      rw [List.pairwise_map]
      exact List.pairwise_lt_range.imp fun h => by omega
    · rw [List.mem_filter, decide_eq_true_iff, List.mem_map]
      constructor
      · intro h
        have := G.rng i z h
        exact ⟨⟨z.toNat, List.mem_range.mpr (by omega), by omega⟩, h⟩
      · exact fun h => h.2
  rw [e.length_eq]
  refine Nat.le_trans (List.length_filter_le _ _) ?_
  rw [List.length_map, List.length_range]
  exact G.few
theorem Good.small {rows : List (List Int)} (G : Good rows) : ∀ r ∈ rows, r.length ≤ 60 := fun r h => by
  obtain ⟨i, hi, rfl⟩ := List.mem_iff_getElem.mp h
  have := G.row i
  rw [List.getD_eq_getElem?_getD, List.getElem?_eq_getElem hi] at this
  have this : rows[i].length ≤ 30 := this
  omega
section
variable {P : Program} {w : World} {K : PySem.W.Frag} {mg : Str → Option Value} {base : Heap} {A : Adr}
/-! a refusal kept as a value -/
theorem exmJ (T : Txt K mg A) {D : Addr} {z : Str} (h : (D, z) ∈ kinds A) : PySem.W.exmOne K (.ref D) (.ref A.c_JoinError) = some true := by
  unfold kinds at h
  simp only [List.mem_cons, Prod.mk.injEq, List.not_mem_nil, or_false] at h
  rcases h with ⟨rfl, rfl⟩ | ⟨rfl, rfl⟩ | ⟨rfl, rfl⟩ | ⟨rfl, rfl⟩ | ⟨rfl, rfl⟩
  · exact PySem.W.exm_ref T.hb_JoinError T.hd_JoinError T.ht_JoinError T.su_BadSize_JoinError
  · exact PySem.W.exm_ref T.hb_JoinError T.hd_JoinError T.ht_JoinError T.su_BadPoint_JoinError
  · exact PySem.W.exm_ref T.hb_JoinError T.hd_JoinError T.ht_JoinError T.su_Twice_JoinError
  · exact PySem.W.exm_ref T.hb_JoinError T.hd_JoinError T.ht_JoinError T.su_NoTie_JoinError
  · exact PySem.W.exm_ref T.hb_JoinError T.hd_JoinError T.ht_JoinError T.su_TooMany_JoinError
end
end Jk

namespace Jk
open PySem L2 Evl
/-- a list of unlike whole numbers below m -/
def Unl (H : Hp) (x : V) (m : Int) : Prop := ∃ (a : Addr) (ns : List Int), x = .ref a ∧ LsI H a ns ∧ ns.Nodup ∧ ∀ n ∈ ns, 0 ≤ n ∧ n < m
structure Lst1 (H : Hp) (x : V) : Prop where
  th : Thing H x
  it : ∀ (a : Addr) (xs : List V), x = .ref a → H a = some (.lst xs) → xs.length ≤ 100 ∧ ∀ y ∈ xs, Thing H y
def spUnlike : Sp := fun vs H Q _ => ∃ (x : V) (m : Int), vs = [x, .int m] ∧ Lst1 H x ∧ (Unl H x m → Q (.bl true) H) ∧ (¬ Unl H x m → Q (.bl false) H)
section
variable {P : Program} {w : World} {K : PySem.W.Frag} {mg : Str → Option Value} {base : Heap} {A : Adr}
theorem ok_unlike_points (T : Txt K mg A) : FnOk P w K mg base CX0 2 A.a_unlike_points A.d_unlike_points ["points", "many"] spUnlike := by
  refine T.F_unlike_points.ok sc_unlike_points (fun vs H Q E h => ?_) (fun cdv C outer s H vs Q E hr h => ?_)
  · obtain ⟨x, m, rfl, _⟩ := h
    rfl
  · obtain ⟨x, m, rfl, L, k1, k2⟩ := h
    refine ⟨_, (pss_cons (ps_if (pt_not (pt_val (pe_callB call_isJ (by rfl) T.isinstance (by decide +kernel) (pa_cons (pv 0) (pa_cons (pe_bltn (v := .ty "list") (u := .type "list") (by rfl) T.list (by decide +kernel) rfl) pa_nil)))))
    (pss_one (ps_ret pe_bl))
    pss_nil)
  (pss_cons (ps_for PassesOwn.never rfl (pi_list (pv 0)) (pg_name (i := 2) sc_unlike_points.nd rfl (.inl rfl))
    (pss_one (ps_if (pt_not (pt_val (pe_call (ok_whole_within T) (hr.mono (by decide)) rfl T.g_whole_within T.k_whole_within T.b_whole_within .nil pass0 (pa_cons (pv 2) (pa_cons pe_int (pa_cons (pe_op op_sub (pv 1) pe_int) pa_nil))))))
        (pss_one (ps_ret pe_bl))
        pss_nil)))
  (pss_one (ps_ret (pe_cmpR op_eq (pe_lenSetJ rfl (by rfl) T.len (by rfl) T.set (pv 0)) (pe_callB call_lenJ (by rfl) T.len (by decide +kernel) (pa_cons (pv 0) pa_nil)) (nomark _)))))), ?_⟩
    have key : ∀ {t : String}, tyN H x = some t → ¬ t = "list" → kitB t "list" = some false → ¬ Unl H x m := fun {t} ht hn _ hu => by
      obtain ⟨a, ns, rfl, h, _⟩ := hu
      rw [tyN_lst h] at ht
      cases ht
      exact hn rfl
    by_cases hx : ∃ (a : Addr) (xs : List V), x = .ref a ∧ H a = some (.lst xs)
    · obtain ⟨a, xs, rfl, ha⟩ := hx
      obtain ⟨hlen, hth⟩ := L.it a xs rfl ha
      simp [L2.start, and_assoc, tyN_lst ha]
      refine ⟨_, rfl, a, rfl, ⟨_, .inl (.inl ha)⟩, for_list (xs := xs) (fun i σ H' => ∃ b : Option V, σ = [some (.ref a), some (.int m), b] ∧ H' = H ∧ ∀ (j : Nat) (y : V), j < i → xs[j]? = some y → inR y 0 (m - 1) = true) ⟨none, rfl, rfl, fun j y h => absurd h (Nat.not_lt_zero _)⟩ (fun i σ H' _ h => ?_) (fun i y σ H' hy h => ?_) (fun σ H' h => ?_)⟩
      · obtain ⟨b, _, rfl, _⟩ := h
        exact .inl (.inl ha)
      · obtain ⟨b, rfl, rfl, hall⟩ := h
        have ty := hth y (List.mem_of_getElem? hy)
        simp [spWhole, and_assoc, ty]
        cases hr : inR y 0 (m - 1) with
        | false =>
          refine .inl ⟨rfl, k2 fun hu => ?_⟩
          obtain ⟨a', ns, e, hl, _, hb⟩ := hu
          cases e
          unfold LsI at hl
          rw [ha] at hl
          have e : xs = ns.map V.int := HO.lst.inj (Option.some.inj hl)
          rw [e, List.getElem?_map] at hy
          cases hn : ns[i]? with
          | none => rw [hn] at hy; cases hy
          | some z =>
            rw [hn] at hy
            cases hy
            have := hb z (List.mem_of_getElem? hn)
            simp [inR] at hr
            omega
        | true =>
          refine .inr ⟨rfl, fun j z hj hz => ?_⟩
          by_cases h : j < i
          · exact hall j z h hz
          · have : j = i := by omega
            subst this
            rw [hy] at hz
            cases hz
            exact hr
      · obtain ⟨b, rfl, rfl, hall⟩ := h
        have hns : ∃ ns : List Int, xs = ns.map V.int ∧ ∀ n ∈ ns, 0 ≤ n ∧ n < m := by
          have gen : ∀ l : List V, (∀ y ∈ l, inR y 0 (m - 1) = true) → ∃ ns : List Int, l = ns.map V.int ∧ ∀ n ∈ ns, 0 ≤ n ∧ n < m := by
            intro l
            induction l with
            | nil => exact fun _ => ⟨[], rfl, fun n h => nomatch h⟩
            | cons y l ih =>
              intro h
              obtain ⟨ns, e, hb⟩ := ih fun z hz => h z (by simp [hz])
              have h1 := h y (by simp)
              cases y with
              | int n =>
                simp [inR] at h1
                exact ⟨n :: ns, by rw [e]; rfl, fun k hk => by
                  rcases List.mem_cons.mp hk with rfl | hk
                  · omega
                  · exact hb k hk⟩
              | _ => cases h1
          refine gen xs fun y hy => ?_
          obtain ⟨j, hj, e⟩ := List.mem_iff_getElem.mp hy
          exact hall j y hj (by rw [List.getElem?_eq_getElem hj, e])
        obtain ⟨ns, rfl, hb⟩ := hns
        have hl : LsI H' a ns := ha
        simp [and_assoc, lsI_ex hl, ha]
        rw [List.length_map] at hlen
        refine ⟨by omega, fun k hk => ?_⟩
        by_cases hn : ns.Nodup
        · have : k = ns.length := hk.mpr hn
          simpa [this] using k1 ⟨a, ns, rfl, hl, hn, hb⟩
        · have : ¬ (k : Int) = (ns.length : Int) := fun e => hn (hk.mp (by omega))
          simpa [this] using k2 fun ⟨a', ms, e, g, gn, _⟩ => by
            cases e
            rw [hl.uniq g] at gn
            exact hn gn
    · have no : ¬ Unl H x m := fun ⟨a, ns, e, h, _⟩ => hx ⟨a, _, e, h⟩
      cases L.th with
      | non => simpa [L2.start, and_assoc] using k2 no
      | bl b => simpa [L2.start, and_assoc] using k2 no
      | int i => simpa [L2.start, and_assoc] using k2 no
      | str s => simpa [L2.start, and_assoc] using k2 no
      | lst h => exact absurd ⟨_, _, rfl, h⟩ hx
      | tup h => simpa [L2.start, and_assoc, tyN_tup h] using k2 no
      | dK h => simpa [L2.start, and_assoc, tyN_dK h] using k2 no
end
end Jk

namespace Jk
open PySem L2 Evl
theorem ex_but {H0 H H' : Hp} {M : List Addr} (e : Ex H0 H) (b : But M H H') (n : ∀ m ∈ M, H0 m = none) : Ex H0 H' := fun x o h => b.kp x o (e x o h) fun z => by rw [n x z] at h; cases h
theorem WebAt.dAt {C : Addr} {H : Hp} {p l : Addr} {ds : List Addr} {rows : List (List Int)} (W : WebAt C H p l ds rows) {d : Addr} (h : d ∈ ds) : ∃ kv, H d = some (.dK kv) := by
  obtain ⟨i, hi, ei⟩ := List.mem_iff_getElem.mp h
  obtain ⟨d', c1, c2, _⟩ := W.at (i := i) (by rw [← W.len]; exact hi)
  rw [List.getElem?_eq_getElem hi, ei] at c1
  cases c1
  exact ⟨_, c2⟩
/-- what is no dict with keys for ints and texts stays when the web's own dicts change -/
theorem WebAt.kp {C : Addr} {H H' : Hp} {p l : Addr} {ds : List Addr} {rows : List (List Int)} (W : WebAt C H p l ds rows) (b : But ds H H') {a : Addr} {o : HO} (h : H a = some o) (no : ∀ kv, o ≠ .dK kv) : H' a = some o :=
  b.kp _ _ h fun z => by
    obtain ⟨kv, e⟩ := W.dAt z
    rw [h] at e
    exact no kv (Option.some.inj e)
theorem WebAt.kpT {C : Addr} {H H' : Hp} {p l : Addr} {ds : List Addr} {rows : List (List Int)} (W : WebAt C H p l ds rows) (b : But ds H H') {ts : List Addr} {prs : List (Int × Int)} (h : TupsAt H ts prs) : TupsAt H' ts prs := h.map fun t o e => W.kp b e (by simp)
theorem nd_len {ns : List Int} {m : Nat} (nd : ns.Nodup) (h : ∀ n ∈ ns, 0 ≤ n ∧ n < (m : Int)) : ns.length ≤ m := by
  have e : ns.Perm (((List.range m).map fun (k : Nat) => (k : Int)).filter fun z => decide (z ∈ ns)) := by
    refine (List.perm_ext_iff_of_nodup nd ?_).mpr fun z => ?_
    · refine List.Pairwise.sublist List.filter_sublist ?_
      rw [List.pairwise_map]
      exact List.pairwise_lt_range.imp fun h => by omega
    · rw [List.mem_filter, decide_eq_true_iff, List.mem_map]
      constructor
      · intro hz
        have := h z hz
        exact ⟨⟨z.toNat, List.mem_range.mpr (by omega), by omega⟩, hz⟩
      · exact fun hz => hz.2
  rw [e.length_eq]
  refine Nat.le_trans (List.length_filter_le _ _) ?_
  rw [List.length_map, List.length_range]
  exact Nat.le_refl _
theorem pairs_nd (n : Nat) : (pairsL n).Nodup := (pairs_sorted n).imp lexLt_ne
theorem pairs_few {n : Nat} (h : n ≤ 30) : (pairsL n).length ≤ 900 := by
  have z2 := rows_len n n
  have z3 : n * n ≤ 30 * 30 := Nat.mul_le_mul h h
  have z5 : (pairsL n).length ≤ n * n := z2
  omega
structure Step (f : Int × Int → Bool) (k m : Nat) (rows : List (List Int)) : Prop where
  G : Good rows
  R : Rel rows k (((pairsL k).take m).filter f)
theorem Step.len {f : Int × Int → Bool} {k m : Nat} {rows : List (List Int)} (S : Step f k m rows) : rows.length = k := by have := S.R.n; omega
theorem step_init {f : Int × Int → Bool} {k : Nat} (h1 : 1 ≤ k) (h2 : k ≤ 30) : Step f k 0 (List.replicate k []) := ⟨good_init h1 h2, by simpa using rel_init⟩
theorem Step.ok {f : Int × Int → Bool} {k m i j : Nat} {rows : List (List Int)} (S : Step f k m rows) (hp : (pairsL k)[m]? = some ((i : Int), (j : Int))) :
    okTwo rows (.int i) (.int j) = true ∧ tied rows i j = false := by
  have hl := S.len
  obtain ⟨a, b, e, hab, hb⟩ := pairs_in (List.mem_of_getElem? hp)
  have e1 : (i : Int) = a := (Prod.mk.inj e).1
  have e2 : (j : Int) = b := (Prod.mk.inj e).2
  have hij : i < j := by omega
  have hj : j < rows.length := by omega
  refine ⟨?_, ?_⟩
  · unfold okTwo
    rw [okPt_of (by omega) (by simp; omega), okPt_of (by omega) (by simp; omega)]
    simp; omega
  · cases ht : tied rows i j with
    | false => rfl
    | true =>
      have t := (tied_iff rows i j).mp ht
      have hin := (S.R.tie S.G (by omega : i ≠ j)).mpr t
      have et : tieN i j = ((i : Int), (j : Int)) := by unfold tieN; rw [show min i j = i by omega, show max i j = j by omega]
      rw [et] at hin
      have h2 := (List.mem_filter.mp hin).1
      obtain ⟨q, hq, eq⟩ := List.mem_iff_getElem.mp h2
      rw [List.getElem_take] at eq
      rw [List.length_take] at hq
      obtain ⟨hm, em⟩ := List.getElem?_eq_some_iff.mp hp
      have := List.pairwise_iff_getElem.mp (pairs_nd k) q m (by omega) hm (by omega)
      exact absurd (eq.trans em.symm) this
theorem Step.yes {f : Int × Int → Bool} {k m i j : Nat} {rows : List (List Int)} (S : Step f k m rows) (hp : (pairsL k)[m]? = some ((i : Int), (j : Int))) (hf : f ((i : Int), (j : Int)) = true) : Step f k (m + 1) (putR rows i j) := by
  obtain ⟨h1, h2⟩ := S.ok hp
  have hl := S.len
  obtain ⟨a, b, e, hab, hb⟩ := pairs_in (List.mem_of_getElem? hp)
  have e1 : (i : Int) = a := (Prod.mk.inj e).1
  have e2 : (j : Int) = b := (Prod.mk.inj e).2
  have nt : ¬ tN rows i j := fun z => by rw [(tied_iff rows i j).mpr z] at h2; cases h2
  have et : tieN i j = ((i : Int), (j : Int)) := by unfold tieN; rw [show min i j = i by omega, show max i j = j by omega]
  refine ⟨good_put S.G (by omega) (by omega) (by omega) nt, ?_⟩
  have z := rel_put S.G S.R (show i < rows.length by omega) (show j < rows.length by omega) (by omega) nt
  rw [et] at z
  rw [List.take_add_one, hp, List.filter_append]
  simpa [hf] using z
theorem Step.no {f : Int × Int → Bool} {k m : Nat} {p : Int × Int} {rows : List (List Int)} (S : Step f k m rows) (hp : (pairsL k)[m]? = some p) (hf : f p = false) : Step f k (m + 1) rows := by
  refine ⟨S.G, ?_⟩
  rw [List.take_add_one, hp, List.filter_append]
  simpa [hf] using S.R
/-- a new web whose ties are those of the pairs that f tells -/
def RetWeb (C : Addr) (f : Int × Int → Bool) (k : Nat) (H : Hp) (Q : VK) : Prop := ∀ (p l : Addr) (ds : List Addr) (rows : List (List Int)) (H' : Hp), Ex H H' → WebAt C H' p l ds rows → H p = none → H l = none → (∀ d ∈ ds, H d = none) → Good rows → Rel rows k ((pairsL k).filter f) → Q (.ref p) H'
def atI (ns : List Int) (i : Int) : Int := ns.getD i.toNat 0
def partF (rows : List (List Int)) (ns : List Int) (p : Int × Int) : Bool := tied rows (Jk.atI ns p.1) (Jk.atI ns p.2)
def oppF (rows : List (List Int)) (p : Int × Int) : Bool := !tied rows p.1 p.2
def spPart (A : Adr) : Sp := fun vs H Q E => ∃ (p l : Addr) (ds : List Addr) (rows : List (List Int)) (x : V), vs = [.ref p, x] ∧ WebAt A.c_Web H p l ds rows ∧ Good rows ∧ Lst1 H x ∧
  ((¬ ∃ a ns, x = .ref a ∧ LsI H a ns ∧ ns.Nodup ∧ (∀ n ∈ ns, 0 ≤ n ∧ n < (rows.length : Int)) ∧ ns ≠ []) → E (.ref A.c_BadPoint) none H) ∧
  (∀ a ns, x = .ref a → LsI H a ns → ns.Nodup → (∀ n ∈ ns, 0 ≤ n ∧ n < (rows.length : Int)) → ns ≠ [] → RetWeb A.c_Web (partF rows ns) ns.length H Q)
def spOpp (A : Adr) : Sp := fun vs H Q _ => ∃ (p l : Addr) (ds : List Addr) (rows : List (List Int)), vs = [.ref p] ∧ WebAt A.c_Web H p l ds rows ∧ Good rows ∧ RetWeb A.c_Web (oppF rows) rows.length H Q
section
variable {P : Program} {w : World} {K : PySem.W.Frag} {mg : Str → Option Value} {base : Heap} {A : Adr}
theorem ok_part (T : Txt K mg A) : FnOk P w K mg base (L2.CX P w) 5 A.a_part A.d_part ["web", "points"] (spPart A) := by
  refine T.F_part.okX sc_part (fun vs H Q E h => ?_) (fun cdv C outer s H vs Q E hr h => ?_)
  · obtain ⟨p, l, ds, rows, x, rfl, _⟩ := h
    rfl
  · obtain ⟨p, l, ds, rows, x, rfl, W, G, L, k1, k2⟩ := h
    refine ⟨_, (pss_cons (ps_if (PW.pt (pw_or (pt_not (pt_val (pe_call (ok_unlike_points T) (hr.mono (by decide)) rfl T.g_unlike_points T.k_unlike_points T.b_unlike_points .nil pass0 (pa_cons (pv 1) (pa_cons (pe_meth0 (pv 0) T.cl_Web T.m_Web_many (ok_Web_many T) (hr.mono (by decide)) T.b_Web_many .nil pass0) pa_nil))))) (pw_or1 (pt_cmpR op_eq (pe_callB call_lenJ (by rfl) T.len (by decide +kernel) (pa_cons (pv 1) pa_nil)) pe_int (nomark _)))))
    (pss_one (ps_raise rfl (takes_of rfl rfl rfl rfl) (pmk_own PySem.F.excBase_ValueError T.xBadPoint T.gBadPoint T.kBadPoint (raises_own T.bBadPoint T.tBadPoint) rfl)))
    pss_nil)
  (pss_cons (ps_set (i := 2) sc_part.nd rfl (Or.inl rfl) (pe_make T.mk_Web (ok_Web_init T) (hr.mono (by decide)) rfl T.gWeb T.b_Web_init .nil (passes_call (E := E) (takes_of rfl rfl rfl rfl) fun _ _ _ _ z => z) (pa_cons (pe_callB call_lenJ (by rfl) T.len (by decide +kernel) (pa_cons (pv 1) pa_nil)) pa_nil)))
  (pss_cons (ps_for (passes_of rfl) rfl (pi_list (pe_call (ok_pairs T) (hr.mono (by decide)) rfl T.g_pairs T.k_pairs T.b_pairs .nil pass0 (pa_cons (pe_callB call_lenJ (by rfl) T.len (by decide +kernel) (pa_cons (pv 1) pa_nil)) pa_nil))) (pg_tupJ (n := 2) rfl (pgs_cons (pg_name (i := 3) sc_part.nd rfl (.inl rfl)) (pgs_cons (pg_name (i := 4) sc_part.nd rfl (.inl rfl)) pgs_nil)))
    (pss_one (ps_if (pt_val (pe_meth (pv 0) T.cl_Web T.m_Web_has (ok_Web_has T) (hr.mono (by decide)) T.b_Web_has .nil (passes_call (E := E) (takes_of rfl rfl rfl rfl) fun _ _ _ _ z => z) (pa_cons (pe_ix ix_listJ (pv 1) (pv 3) (fun _ _ => rfl)) (pa_cons (pe_ix ix_listJ (pv 1) (pv 4) (fun _ _ => rfl)) pa_nil))))
        (pss_one (ps_expr (pe_meth (pv 2) T.cl_Web T.m_Web_put (ok_Web_put T) (hr.mono (by decide)) T.b_Web_put .nil (passes_call (E := E) (takes_of rfl rfl rfl rfl) fun _ _ _ _ z => z) (pa_cons (pv 3) (pa_cons (pv 4) pa_nil)))))
        pss_nil)))
  (pss_one (ps_ret (pv 2)))))), ?_⟩
    obtain ⟨dx, w1⟩ := W.ob
    simp [L2.start, and_assoc, w1, spMany, web_ex W, spUnlike, L]
    refine ⟨fun hu => ?_, fun hu => k1 fun ⟨a, ns, e, h1, h2, h3, _⟩ => hu ⟨a, ns, e, h1, h2, h3⟩⟩
    obtain ⟨a, ns, rfl, h1, h2, h3⟩ := hu
    have hlen := nd_len h2 h3
    have few := G.few
    have h1' : H a = some (.lst (ns.map V.int)) := h1
    simp [h1']
    by_cases hne : ns = []
    · subst hne
      refine .inr ⟨rfl, k1 fun ⟨a', ms, e, g, _, _, g2⟩ => ?_⟩
      cases e
      exact g2 (h1.uniq g)
    · have hpos : 1 ≤ ns.length := by cases ns with | nil => exact absurd rfl hne | cons _ _ => simp
      refine .inl ⟨hne, fun p' dx' n1 n2 n3 => ?_⟩
      refine ⟨p', dx', _, rfl, upd_same, .int _, fun z => ?_, fun z l' ds' H1 W1 b1 nl nds => ⟨rfl, ?_⟩⟩
      · have zz : ¬ ((1 : Int) ≤ ns.length ∧ (ns.length : Int) ≤ 30) := by simpa [inR] using z
        omega
      have eX : Ex H (upd (upd H dx' (.own p')) p' (.ins A.c_Web dx' [])) := fun b o e => by
        rw [upd_ne (ne_of_none e n1), upd_ne (ne_of_none e n2)]; exact e
      have e01 : Ex H H1 := fun b o e => b1.kp b o (eX b o e) (by simpa using ne_of_none e n1)
      have e1n : (iOf (.int (ns.length : Int))).toNat = ns.length := by simp [iOf]
      rw [e1n] at W1
      have ha1 := e01 _ _ h1'
      let f := partF rows ns
      have nX : ∀ x, (upd (upd H dx' (.own p')) p' (.ins A.c_Web dx' [])) x = none → H x = none := fun x z => fresh_back eX z
      refine ⟨_, rfl, a, _, rfl, ha1, ns.length, by simp, by omega, fun ts q H2 hq e12 hql hts => ⟨q, rfl, ⟨_, .inl (.inl hql)⟩, ?_⟩⟩
      have e02 := e01.trans e12
      refine for_list (xs := ts.map V.ref) (fun m σ H' => ∃ (b3 b4 : Option V) (rows' : List (List Int)), σ = [some (.ref p), some (.ref a), some (.ref p'), b3, b4] ∧ Ex H H' ∧ H' q = some (.lst (ts.map V.ref)) ∧ TupsAt H' ts (pairsL ns.length) ∧ WebAt A.c_Web H' p' l' ds' rows' ∧ Step f ns.length m rows') ⟨none, none, _, rfl, e02, hql, hts, W1.up e12, step_init hpos (by omega)⟩ (fun m σ H' _ h => ?_) (fun m x σ H' hx h => ?_) (fun σ H' h => ?_)
      · obtain ⟨_, _, _, _, _, h, _⟩ := h
        exact .inl (.inl h)
      · obtain ⟨b3, b4, rows', rfl, e, hq', ht', W', S⟩ := h
        rw [List.getElem?_map] at hx
        cases ht0 : ts[m]? with
        | none => rw [ht0] at hx; cases hx
        | some t =>
          rw [ht0] at hx
          cases hx
          have hm : m < ts.length := (List.getElem?_eq_some_iff.mp ht0).1
          have hm' : m < (pairsL ns.length).length := by rw [← ht'.1]; exact hm
          have hp0 : (pairsL ns.length)[m]? = some (pairsL ns.length)[m] := List.getElem?_eq_getElem hm'
          obtain ⟨i, j, hp, hij, hj⟩ := pairs_in (List.mem_of_getElem? hp0)
          have htup := ht'.2 m t _ ht0 hp0
          rw [hp] at htup hp0
          have Wh := W.up e
          obtain ⟨dxh, wh⟩ := Wh.ob
          obtain ⟨dxp, wp⟩ := W'.ob
          have gi : (ns.map V.int)[i]? = some (.int (Jk.atI ns i)) := by
            have hi : i < ns.length := by omega
            rw [List.getElem?_map, List.getElem?_eq_getElem hi]
            simp [Jk.atI, List.getD_eq_getElem?_getD, hi]
          have gj : (ns.map V.int)[j]? = some (.int (Jk.atI ns j)) := by
            rw [List.getElem?_map, List.getElem?_eq_getElem hj]
            simp [Jk.atI, List.getD_eq_getElem?_getD, hj]
          have ri := h3 _ (show Jk.atI ns i ∈ ns by rw [List.getElem?_map] at gi; cases z : ns[i]? with
            | none => rw [z] at gi; cases gi
            | some y => rw [z] at gi; cases gi; exact List.mem_of_getElem? z)
          have rj := h3 _ (show Jk.atI ns j ∈ ns by rw [List.getElem?_map] at gj; cases z : ns[j]? with
            | none => rw [z] at gj; cases gj
            | some y => rw [z] at gj; cases gj; exact List.mem_of_getElem? z)
          have nij : Jk.atI ns i ≠ Jk.atI ns j := by
            have hi : i < ns.length := by omega
            have := List.pairwise_iff_getElem.mp h2 i j hi hj hij
            simpa [Jk.atI, List.getD_eq_getElem?_getD, hi, hj] using this
          have ok2 : okTwo rows (.int (Jk.atI ns i)) (.int (Jk.atI ns j)) = true := by
            unfold okTwo
            rw [okPt_of ri.1 (by omega), okPt_of rj.1 (by omega)]
            simp [nij]
          obtain ⟨s1, s2⟩ := S.ok hp0
          have sm : ∀ r ∈ rows', r.length ≤ 100 := fun r hr => by have := S.G.small r hr; omega
          simp [and_assoc, htup, wh, wp, e _ _ h1', spHas, web_ex Wh, gi, gj, ok2, iOf, spPut, web_ex W', S.G.sy, s1, s2]
          refine ⟨.int _, .int _, ?_⟩
          cases hf : tied rows (Jk.atI ns i) (Jk.atI ns j) with
          | false => exact .inl ⟨rfl, e, hq', ht', rows', W', S.no hp0 hf⟩
          | true => exact .inr ⟨rfl, .int _, .int _, sm, fun H3 W3 b3 => ⟨ex_but e b3 fun d hd => nX _ (nds d hd), W'.kp b3 hq' (by simp), W'.kpT b3 ht', _, W3, S.yes hp0 hf⟩⟩
      · obtain ⟨b3, b4, rows', rfl, e, hq', ht', W', S⟩ := h
        have R := S.R
        rw [List.length_map, ht'.1, List.take_length] at R
        exact ⟨_, rfl, k2 a ns rfl h1 h2 h3 hne p' l' ds' rows' H' e W' n1 (nX _ nl) (fun d hd => nX _ (nds d hd)) S.G R⟩
theorem ok_opposite (T : Txt K mg A) : FnOk P w K mg base CX0 5 A.a_opposite A.d_opposite ["web"] (spOpp A) := by
  refine T.F_opposite.ok sc_opposite (fun vs H Q E h => ?_) (fun cdv C outer s H vs Q E hr h => ?_)
  · obtain ⟨p, l, ds, rows, rfl, _⟩ := h
    rfl
  · obtain ⟨p, l, ds, rows, rfl, W, G, k2⟩ := h
    refine ⟨_, (pss_cons (ps_set (i := 1) sc_opposite.nd rfl (Or.inl rfl) (pe_make T.mk_Web (ok_Web_init T) (hr.mono (by decide)) rfl T.gWeb T.b_Web_init .nil passL (pa_cons (pe_meth0 (pv 0) T.cl_Web T.m_Web_many (ok_Web_many T) (hr.mono (by decide)) T.b_Web_many .nil pass0) pa_nil)))
  (pss_cons (ps_for PassesOwn.never rfl (pi_list (pe_call (ok_pairs T) (hr.mono (by decide)) rfl T.g_pairs T.k_pairs T.b_pairs .nil pass0 (pa_cons (pe_meth0 (pv 0) T.cl_Web T.m_Web_many (ok_Web_many T) (hr.mono (by decide)) T.b_Web_many .nil pass0) pa_nil))) (pg_tupJ (n := 2) rfl (pgs_cons (pg_name (i := 2) sc_opposite.nd rfl (.inl rfl)) (pgs_cons (pg_name (i := 3) sc_opposite.nd rfl (.inl rfl)) pgs_nil)))
    (pss_one (ps_if (pt_not (pt_val (pe_meth (pv 0) T.cl_Web T.m_Web_has (ok_Web_has T) (hr.mono (by decide)) T.b_Web_has .nil passL (pa_cons (pv 2) (pa_cons (pv 3) pa_nil)))))
        (pss_one (ps_expr (pe_meth (pv 1) T.cl_Web T.m_Web_put (ok_Web_put T) (hr.mono (by decide)) T.b_Web_put .nil passL (pa_cons (pv 2) (pa_cons (pv 3) pa_nil)))))
        pss_nil)))
  (pss_one (ps_ret (pv 1))))), ?_⟩
    obtain ⟨dx, w1⟩ := W.ob
    have one := G.one
    have few := G.few
    simp [L2.start, and_assoc, w1, spMany, web_ex W]
    intro p' dx' n1 n2 n3
    refine ⟨p', dx', _, rfl, upd_same, .int _, fun z => ?_, fun z l' ds' H1 W1 b1 nl nds => ⟨rfl, ?_⟩⟩
    · have zz : ¬ ((1 : Int) ≤ rows.length ∧ (rows.length : Int) ≤ 30) := by simpa [inR] using z
      omega
    have eX : Ex H (upd (upd H dx' (.own p')) p' (.ins A.c_Web dx' [])) := fun b o e => by
      rw [upd_ne (ne_of_none e n1), upd_ne (ne_of_none e n2)]; exact e
    have e01 : Ex H H1 := fun b o e => b1.kp b o (eX b o e) (by simpa using ne_of_none e n1)
    have e1n : (iOf (.int (rows.length : Int))).toNat = rows.length := by simp [iOf]
    rw [e1n] at W1
    let f := oppF rows
    have nX : ∀ x, (upd (upd H dx' (.own p')) p' (.ins A.c_Web dx' [])) x = none → H x = none := fun x z => fresh_back eX z
    have Wa := W.up e01
    obtain ⟨dxa, wa⟩ := Wa.ob
    refine ⟨_, rfl, p, dxa, wf l, rfl, wa, wf_many l, p, l, ds, rows, rfl, Wa, rows.length, rfl, few, fun ts q H2 hq e12 hql hts => ⟨q, rfl, ⟨_, .inl (.inl hql)⟩, ?_⟩⟩
    have e02 := e01.trans e12
    refine for_list (xs := ts.map V.ref) (fun m σ H' => ∃ (b3 b4 : Option V) (rows' : List (List Int)), σ = [some (.ref p), some (.ref p'), b3, b4] ∧ Ex H H' ∧ H' q = some (.lst (ts.map V.ref)) ∧ TupsAt H' ts (pairsL rows.length) ∧ WebAt A.c_Web H' p' l' ds' rows' ∧ Step f rows.length m rows') ⟨none, none, _, rfl, e02, hql, hts, W1.up e12, step_init one few⟩ (fun m σ H' _ h => ?_) (fun m x σ H' hx h => ?_) (fun σ H' h => ?_)
    · obtain ⟨_, _, _, _, _, h, _⟩ := h
      exact .inl (.inl h)
    · obtain ⟨b3, b4, rows', rfl, e, hq', ht', W', S⟩ := h
      rw [List.getElem?_map] at hx
      cases ht0 : ts[m]? with
      | none => rw [ht0] at hx; cases hx
      | some t =>
        rw [ht0] at hx
        cases hx
        have hm : m < ts.length := (List.getElem?_eq_some_iff.mp ht0).1
        have hm' : m < (pairsL rows.length).length := by rw [← ht'.1]; exact hm
        have hp0 : (pairsL rows.length)[m]? = some (pairsL rows.length)[m] := List.getElem?_eq_getElem hm'
        obtain ⟨i, j, hp, hij, hj⟩ := pairs_in (List.mem_of_getElem? hp0)
        have htup := ht'.2 m t _ ht0 hp0
        rw [hp] at htup hp0
        have Wh := W.up e
        obtain ⟨dxh, wh⟩ := Wh.ob
        obtain ⟨dxp, wp⟩ := W'.ob
        have ok2 : okTwo rows (.int i) (.int j) = true := by
          unfold okTwo
          rw [okPt_of (by omega) (by simp; omega), okPt_of (by omega) (by simp; omega)]
          simp; omega
        obtain ⟨s1, s2⟩ := S.ok hp0
        have sm : ∀ r ∈ rows', r.length ≤ 100 := fun r hr => by have := S.G.small r hr; omega
        simp [and_assoc, htup, wh, wp, spHas, web_ex Wh, ok2, iOf, spPut, web_ex W', S.G.sy, s1, s2]
        refine ⟨.int _, .int _, ?_⟩
        cases hf : tied rows i j with
        | true => exact .inr ⟨rfl, e, hq', ht', rows', W', S.no hp0 (by simp [f, oppF, hf])⟩
        | false => exact .inl ⟨rfl, .int _, .int _, sm, fun H3 W3 b3 => ⟨ex_but e b3 fun d hd => nX _ (nds d hd), W'.kp b3 hq' (by simp), W'.kpT b3 ht', _, W3, S.yes hp0 (by simp [f, oppF, hf])⟩⟩
    · obtain ⟨b3, b4, rows', rfl, e, hq', ht', W', S⟩ := h
      have R := S.R
      rw [List.length_map, ht'.1, List.take_length] at R
      exact ⟨_, rfl, k2 p' l' ds' rows' H' e W' n1 (nX _ nl) (fun d hd => nX _ (nds d hd)) S.G R⟩
end
end Jk

namespace Jk
open PySem L2 Evl
theorem erase_map {α β : Type} (f : α → β) : ∀ (l : List α) (i : Nat), (l.map f).eraseIdx i = (l.eraseIdx i).map f
  | [], i => by simp
  | a :: l, 0 => rfl
  | a :: l, i + 1 => by
    show f a :: (l.map f).eraseIdx i = f a :: (l.eraseIdx i).map f
    rw [erase_map f l i]
def rngI (n : Nat) : List Int := (List.range n).map fun (i : Nat) => (i : Int)
theorem rng_nd (n : Nat) : (rngI n).Nodup := by
  unfold rngI List.Nodup
  rw [List.pairwise_map]
  exact List.pairwise_lt_range.imp fun h => by omega
theorem rng_in {n : Nat} {z : Int} : z ∈ rngI n ↔ 0 ≤ z ∧ z < n := by
  unfold rngI
  rw [List.mem_map]
  constructor
  · rintro ⟨i, hi, rfl⟩
    have := List.mem_range.mp hi
    omega
  · intro h
    exact ⟨z.toNat, List.mem_range.mpr (by omega), by omega⟩
def spOrder : Sp := fun vs H Q _ => ∃ (n : Nat) (c : Int), vs = [.int n, .int c] ∧ n ≤ 1000 ∧ ∀ ns q H', ns.Perm (rngI n) → H q = none → Ex H H' → LsI H' q ns → Q (.ref q) H'
def spIs (A : Adr) : Sp := fun vs H Q _ => ∃ (p l : Addr) (ds : List Addr) (rows : List (List Int)) (tl : Addr) (prs : List (Int × Int)) (m : Int), vs = [.ref p, .int m, .ref tl] ∧ WebAt A.c_Web H p l ds rows ∧ Good rows ∧ LsP H tl prs ∧ Rel rows m prs ∧ ∀ H', Ex H H' → Q (.bl true) H'
def spRef (A : Adr) : Sp := fun vs H Q _ => ∃ (p l : Addr) (ds : List Addr) (rows : List (List Int)) (x : V), vs = [.ref p, x] ∧ WebAt A.c_Web H p l ds rows ∧ Good rows ∧ Lst1 H x ∧
  (¬ ∃ a ns, x = .ref a ∧ LsI H a ns ∧ ns.Nodup ∧ (∀ n ∈ ns, 0 ≤ n ∧ n < (rows.length : Int)) ∧ ns ≠ []) ∧ ∀ H', Ex H H' → Q (.bl true) H'
section
variable {P : Program} {w : World} {K : PySem.W.Frag} {mg : Str → Option Value} {base : Heap} {A : Adr}
theorem in_point (A : Adr) : (A.c_BadPoint, ("point" : Str)) ∈ kinds A := by simp [kinds]
theorem ok_l_order (T : Txt K mg A) : FnOk P w K mg base CX0 2 A.a_l_order A.d_l_order ["_law_many", "_law_number_here"] spOrder := by
  refine T.F_l_order.ok sc_l_order (fun vs H Q E h => ?_) (fun cdv C outer s H vs Q E hr h => ?_)
  · obtain ⟨n, c, rfl, _⟩ := h
    rfl
  · obtain ⟨n, c, rfl, hn, k⟩ := h
    refine ⟨_, (pss_cons (ps_set (i := 2) sc_l_order.nd rfl (Or.inl rfl) (pe_lstR rfl (by rfl) T.list (by rfl) T.range (pv 0)))
  (pss_cons (ps_set (i := 3) sc_l_order.nd rfl (Or.inl rfl) (pe_lstJ pa_nil))
  (pss_cons (ps_for PassesOwn.never rfl (pi_range1 rfl T.range (pa_cons (pv 0) pa_nil)) (pg_name (i := 4) sc_l_order.nd rfl (.inl rfl))
    (pss_cons (ps_expr (pe_bmL PySem.F.slot_list_append PySem.F.type_list_append mt_append (pv 3) (pa_cons (pe_bmL PySem.F.slot_list_pop PySem.F.type_list_pop mt_popA (pv 2) (pa_cons (pe_op op_mod (pv 1) (pe_callB call_lenJ (by rfl) T.len (by decide +kernel) (pa_cons (pv 2) pa_nil))) pa_nil)) pa_nil)))
      (pss_one (ps_set (i := 1) sc_l_order.nd rfl (Or.inl rfl) (pe_call (ok_l_mixed T) (hr.mono (by decide)) rfl T.g_l_mixed T.k_l_mixed T.b_l_mixed .nil pass0 (pa_cons (pv 1) (pa_cons (pv 4) pa_nil)))))))
  (pss_one (ps_ret (pv 3)))))), ?_⟩
    simp [L2.start, and_assoc]
    refine ⟨n, rfl, by omega, fun q H1 n1 e1 h1 D H2 n2 e2 h2 => ?_⟩
    refine ⟨_, rfl, n, rfl, by omega, by omega, for_range (n := n) (fun i σ H' => ∃ (b4 : Option V) (c' : Int) (xs ys : List Int), σ = [some (.int n), some (.int c'), some (.ref q), some (.ref D), b4] ∧ Ex H H' ∧ LsI H' q xs ∧ LsI H' D ys ∧ (ys ++ xs).Perm (rngI n) ∧ ys.length = i) ⟨none, c, rngI n, [], rfl, e1.trans e2, e2 _ _ h1, h2, List.Perm.refl _, rfl⟩ (fun i σ H' hi h => ?_) (fun σ H' h => ?_)⟩
    · obtain ⟨b4, c', xs, ys, rfl, e, hx, hy, hp, hl⟩ := h
      have hlen : ys.length + xs.length = n := by
        have z := hp.length_eq
        unfold rngI at z
        simpa using z
      have h0 : 0 < xs.length := by omega
      have hx' : H' q = some (.lst (xs.map V.int)) := hx
      have hy' : H' D = some (.lst (ys.map V.int)) := hy
      have qD : q ≠ D := ne_of_none h1 n2
      have m0 := Int.emod_nonneg c' (show (xs.length : Int) ≠ 0 by omega)
      have m1 := Int.emod_lt_of_pos c' (show (0 : Int) < xs.length by omega)
      have hj : (c' % (xs.length : Int)).toNat < xs.length := by omega
      have ex : xs[(c' % (xs.length : Int)).toNat]? = some xs[(c' % (xs.length : Int)).toNat] := List.getElem?_eq_getElem hj
      have hlt : xs.length ≤ 100000 := by omega
      have hlt2 : ys.length < sizeLine := lt_line (by omega)
      have hD2 : ∀ o, (upd H' q o) D = some (.lst (ys.map V.int)) := fun o => by rw [upd_ne qD.symm]; exact hy'
      simp [and_assoc, hx', hy', ex, h0, m0, hlt, hlt2, hD2, spMixed]
      refine ⟨by omega, ?_, xs.eraseIdx (c' % (xs.length : Int)).toNat, ?_, ys ++ [xs[(c' % (xs.length : Int)).toNat]], ?_, ?_, by simp [hl]⟩
      · have nq : H q = none := n1
        have nD : H D = none := fresh_back e1 n2
        refine fun b o hb => ?_
        rw [upd_ne (ne_of_none hb nD), upd_ne (ne_of_none hb nq)]
        exact e b o hb
      · unfold LsI
        rw [upd_ne qD, upd_same, erase_map]
      · unfold LsI
        rw [upd_same]; simp
      · rw [List.append_assoc]
        exact (List.Perm.append_left ys (erase_perm xs _ _ ex)).trans hp
    · obtain ⟨b4, c', xs, ys, rfl, e, hx, hy, hp, hl⟩ := h
      have z := hp.length_eq
      unfold rngI at z
      simp at z
      have x0 : xs = [] := List.length_eq_zero_iff.mp (by omega)
      subst x0
      rw [List.append_nil] at hp
      exact ⟨_, rfl, k ys D H' hp (fresh_back e1 n2) e hy⟩
theorem ok_l_is (T : Txt K mg A) : FnOk P w K mg base CX0 4 A.a_l_is A.d_l_is ["_law_web_here", "_law_many", "_law_ties"] (spIs A) := by
  refine T.F_l_is.ok sc_l_is (fun vs H Q E h => ?_) (fun cdv C outer s H vs Q E hr h => ?_)
  · obtain ⟨p, l, ds, rows, tl, prs, m, rfl, _⟩ := h
    rfl
  · obtain ⟨p, l, ds, rows, tl, prs, m, rfl, W, G, hL, R, k⟩ := h
    refine ⟨_, (pss_one (ps_ret (pe_and (pe_callB call_isC (by rfl) T.isinstance (by decide +kernel) (pa_cons (pv 0) (pa_cons (pe_glob (v := .ref A.c_Web) rfl T.gWeb rfl) pa_nil))) (pe_and (pe_cmpR op_eq (pe_meth0 (pv 0) T.cl_Web T.m_Web_many (ok_Web_many T) (hr.mono (by decide)) T.b_Web_many .nil pass0) (pv 1) (nomark _)) (pe_one (pe_cmpR (op_eqP hr.units) (pe_meth0 (pv 0) T.cl_Web T.m_Web_ties (ok_Web_ties T) (hr.mono (by decide)) T.b_Web_ties .nil pass0) (pe_callB call_sortP (by rfl) T.sorted (by decide +kernel) (pa_cons (pv 2) pa_nil)) (nomark _))))))), ?_⟩
    obtain ⟨dx, w1⟩ := W.ob
    have en := R.n
    simp [L2.start, and_assoc, w1, T.cl_Web, T.isa_Web, spMany, web_ex W, ← en, spTies, G.few]
    intro ts q H1 n1 e1 h1 ht
    simp [hL.up e1]
    refine ⟨_, hL.up e1, fun qrs D H2 hp hs nD e2 h2 => ?_⟩
    have hq : LsP H2 q (tiesL rows) := ⟨ts, e2 _ _ h1, ht.up e2⟩
    have eq := sorted_ties G R hp hs
    refine ⟨_, hq, _, h2, ?_⟩
    rw [eq, decide_eq_true rfl]
    exact k _ (e1.trans e2)
theorem ok_l_refused (T : Txt K mg A) : FnOk P w K mg base CX0 6 A.a_l_refused A.d_l_refused ["_law_web_here", "_law_thing"] (spRef A) := by
  refine T.F_l_refused.ok sc_l_refused (fun vs H Q E h => ?_) (fun cdv C outer s H vs Q E hr h => ?_)
  · obtain ⟨p, l, ds, rows, x, rfl, _⟩ := h
    rfl
  · obtain ⟨p, l, ds, rows, x, rfl, W, G, L, bad, k⟩ := h
    refine ⟨_, (pss_cons (ps_set (i := 2) sc_l_refused.nd rfl (Or.inl rfl) pe_non)
  (pss_cons (ps_try_keep (i := 3) rfl rfl rfl rfl sc_l_refused.nd rfl rfl ⟨rfl, by decide, .inl T.gJoinError⟩ takes0 (fun W pn xe tk _ => by exact (pss_one (ps_expr (pe_callS (ok_part T) (hr.mono (by decide)) rfl T.g_part T.k_part T.b_part (fun σ => passAt tk σ) (pa_cons (pv 0) (pa_cons (pv 1) pa_nil)))))) (fun a oe cls d pn hz hf => by exact (pss_one (ps_set (i := 2) sc_l_refused.nd rfl (Or.inl rfl) (pv 3)))))
  (pss_one (ps_ret (pe_and (pe_cmpR op_notN (pv 2) pe_non (nomark _)) (pe_one (pe_cmpR op_eq (pe_call (ok_l_kind T) (hr.mono (by decide)) rfl T.g_l_kind T.k_l_kind T.b_l_kind .nil pass0 (pa_cons (pv 2) pa_nil)) pe_str (nomark _)))))))), ?_⟩
    simp [L2.start, and_assoc, spPart, web_ex W, G, L]
    refine ⟨fun _ => ?_, fun a ns e h1 h2 h3 h4 => absurd ⟨a, ns, e, h1, h2, h3, h4⟩ bad⟩
    refine ⟨true, exmJ T (in_point A), fun _ a ha => ?_, fun z => nomatch z⟩
    simp
    intro na
    have e1 : Ex H (upd H a (ExK (.ref A.c_BadPoint) none a)) := Ex.new na
    refine ⟨a, A.c_BadPoint, "point", rfl, upd_same, in_point A, fun H2 e2 => ?_⟩
    simp
    exact k _ (e1.trans e2)
end
end Jk

namespace Jk
open PySem L2 Evl
def othF (prs : List (Int × Int)) (p : Int × Int) : Bool := !decide (p ∈ prs)
def RetP (prs : List (Int × Int)) (H : Hp) (Q : VK) : Prop := ∀ q H', H q = none → Ex H H' → LsP H' q prs → Q (.ref q) H'
def spOthers : Sp := fun vs H Q _ => ∃ (tl : Addr) (n : Nat) (prs : List (Int × Int)), vs = [.ref tl, .int n] ∧ LsP H tl prs ∧ n ≤ 30 ∧ RetP ((pairsL n).filter (othF prs)) H Q
section
variable {P : Program} {w : World} {K : PySem.W.Frag} {mg : Str → Option Value} {base : Heap} {A : Adr}
theorem ok_l_others (T : Txt K mg A) : FnOk P w K mg base CX0 2 A.a_l_others A.d_l_others ["_law_ties", "_law_many"] spOthers := by
  refine T.F_l_others.ok sc_l_others (fun vs H Q E h => ?_) (fun cdv C outer s H vs Q E hr h => ?_)
  · obtain ⟨tl, n, prs, rfl, _⟩ := h
    rfl
  · obtain ⟨tl, n, prs, rfl, hL, hn, k⟩ := h
    refine ⟨_, (pss_cons (ps_set (i := 2) sc_l_others.nd rfl (Or.inl rfl) (pe_lstJ pa_nil))
  (pss_cons (ps_for PassesOwn.never rfl (pi_range1 rfl T.range (pa_cons (pv 1) pa_nil)) (pg_name (i := 3) sc_l_others.nd rfl (.inr rfl))
    (pss_one (ps_set (i := 2) sc_l_others.nd rfl (Or.inl rfl) (pe_op op_catJ (pv 2) (pe_lc (own := [("_law_other", 4)]) rfl sc_l_others.nd (pi_range2 rfl T.range (pa_cons (pe_op op_add (pv 3) pe_int) (pa_cons (pv 1) pa_nil))) (blkOk_by (own := [("_law_other", 4)]) (N := ["_law_ties", "_law_many", "_law_found", "_law_one", "_law_other"]) (sc := defScope s_l_others) (by decide +kernel)) (fun _ _ _ _ _ => by exact (pg_name (i := 4) sc_l_others.nd rfl (Or.inl rfl))) (fun _ _ _ _ _ => by exact (pts_one (pt_cmpR (op_notInP (by exact hr.u65)) (pe_tupJ (pa_cons (pv 3) (pa_cons (pv 4) pa_nil))) (pv 0) (by rfl)))) (fun _ _ _ _ _ => by exact (pe_tupJ (pa_cons (pv 3) (pa_cons (pv 4) pa_nil)))))))))
  (pss_one (ps_ret (pv 2))))), ?_⟩
    simp [L2.start, and_assoc]
    intro D0 H1 n0 e1 h1
    let Z : Nat → List (Int × Int) := fun i => ((List.range i).flatMap (rowP n)).filter (othF prs)
    have zlen : ∀ i, i ≤ n → (Z i).length ≤ 900 := fun i hi => by
      have z1 := List.length_filter_le (othF prs) ((List.range i).flatMap (rowP n))
      have z2 := rows_len n i
      have z3 : i * n ≤ 30 * 30 := Nat.mul_le_mul (by omega) hn
      show (List.filter _ _).length ≤ 900
      omega
    refine ⟨_, rfl, n, rfl, by omega, by omega, for_range (n := n) (fun i σ H' => ∃ (D : Addr) (b3 : Option V), σ = [some (.ref tl), some (.int n), some (.ref D), b3, none] ∧ Ex H H' ∧ H D = none ∧ LsP H' D (Z i)) ⟨D0, none, rfl, e1, n0, [], h1, TupsAt.nil _⟩ (fun i σ H' hi h => ?_) (fun σ H' h => ?_)⟩
    · obtain ⟨D, b3, rfl, e, nD, hD⟩ := h
      simp [and_assoc]
      obtain ⟨us0, hD1, hD2⟩ := hD
      refine ⟨_, rfl, _, _, rfl, rfl, _, rfl, _, _, rfl, ⟨by omega, by omega, by omega, by omega⟩, fun D2 hDn => ?_⟩
      have e0 : ((n : Int) - ((i : Int) + 1)).toNat = n - (i + 1) := by omega
      rw [e0]
      refine lc_range (CompI D2 H' fun j acc H2 => ∃ us : List Addr, acc = us.map V.ref ∧ TupsAt H2 us (((rowP n i).take j).filter (othF prs))) ⟨Ex.new hDn, [], upd_same, by simp, [], rfl, TupsAt.nil _⟩ (fun j H2 hj c => ?_) (fun H2 c => ?_)
      · obtain ⟨e2, acc, g1, g2, us, g3, g4⟩ := c
        have hat : (rowP n i)[j]? = some ((i : Int), (i : Int) + 1 + (j : Int)) := by
          unfold rowP
          rw [List.getElem?_map, List.getElem?_range hj]
          simp
        have step : ((rowP n i).take (j + 1)).filter (othF prs) = ((rowP n i).take j).filter (othF prs) ++ (if othF prs ((i : Int), (i : Int) + 1 + (j : Int)) = true then [((i : Int), (i : Int) + 1 + (j : Int))] else []) := by
          rw [List.take_add_one, hat, List.filter_append]
          simp [List.filter_cons]
        have hlen : acc.length < 100000 := by
          have z := g4.1
          have z1 := List.length_filter_le (othF prs) ((rowP n i).take j)
          have z2 : ((rowP n i).take j).length ≤ n := by rw [List.length_take]; simp [rowP]; omega
          rw [g3, List.length_map]; omega
        simp [L2.start, wipe, and_assoc]
        intro t1 H3 m1 f1 a1
        have hp3 : PrA H3 t1 ((i : Int), (i : Int) + 1 + (j : Int)) := a1
        refine ⟨_, _, hp3, prs, hL.up ((e.trans e2).trans f1), ?_⟩
        by_cases hm : ((i : Int), (i : Int) + 1 + (j : Int)) ∈ prs
        · refine .inl ⟨hm, e2.trans f1, acc, f1 _ _ g1, g2, us, g3, ?_⟩
          rw [step, show othF prs ((i : Int), (i : Int) + 1 + (j : Int)) = false by simp [othF, hm], if_neg (by simp), List.append_nil]
          exact g4.up f1
        · refine .inr ⟨hm, fun t2 H4 m2 f2 a2 => ?_⟩
          have ne : t2 ≠ D2 := fun z => by rw [z, f1 _ _ g1] at m2; cases m2
          refine CompI.push hDn ((e2.trans f1).trans f2) ((f1.trans f2) _ _ g1) hlen ⟨us ++ [t2], by rw [g3, List.map_append]; rfl, ?_⟩
          show TupsAt _ _ _
          rw [step, show othF prs ((i : Int), (i : Int) + 1 + (j : Int)) = true by simp [othF, hm], if_pos rfl]
          refine TupsAt.snoc ((g4.up (f1.trans f2)).upd ((f1.trans f2) _ _ g1)) ?_
          rw [upd_ne ne, a2]
      · obtain ⟨e2, acc, g1, g2, us, g3, g4⟩ := c
        have hfull : (rowP n i).take (n - (i + 1)) = rowP n i := List.take_of_length_le (by simp [rowP])
        rw [hfull] at g4
        subst g3
        have zi := zlen i (by omega)
        have zs : Z (i + 1) = Z i ++ (rowP n i).filter (othF prs) := by
          show List.filter _ _ = List.filter _ _ ++ _
          rw [List.range_succ, List.flatMap_append, List.filter_append]
          simp
        have l1 := hD2.1
        have l2 := g4.1
        have z2 := zlen (i + 1) (by omega)
        rw [zs, List.length_append] at z2
        refine ⟨D, D2, _, _, rfl, rfl, e2 _ _ hD1, g1, by simp; omega, fun D3 H3 m3 e3 h3 => ?_⟩
        refine ⟨D3, rfl, (e.trans e2).trans e3, fresh_back (e.trans e2) m3, us0 ++ us, by rw [h3, List.map_append], ?_⟩
        rw [zs]
        exact (hD2.up (e2.trans e3)).app (g4.up e3)
    · obtain ⟨D, b3, rfl, e, nD, hD⟩ := h
      exact ⟨_, rfl, k D H' nD e hD⟩
end
end Jk

namespace Jk
open PySem L2 Evl
def mm (x y : Int) : Int × Int := (if y < x then y else x, if x < y then y else x)
def lpF (prs : List (Int × Int)) (ns : List Int) (p : Int × Int) : Bool := decide (mm (Jk.atI ns p.1) (Jk.atI ns p.2) ∈ prs)
def colR (i : Nat) : List (Int × Int) := (List.range i).map fun (b : Nat) => ((b : Int), (i : Int))
def colP (k : Nat) : List (Int × Int) := (List.range k).flatMap colR
theorem col_in {k : Nat} {p : Int × Int} : p ∈ colP k ↔ ∃ i j : Nat, p = ((i : Int), (j : Int)) ∧ i < j ∧ j < k := by
  unfold colP colR
  rw [List.mem_flatMap]
  constructor
  · rintro ⟨a, ha, h⟩
    obtain ⟨b, hb, rfl⟩ := List.mem_map.mp h
    exact ⟨b, a, rfl, List.mem_range.mp hb, List.mem_range.mp ha⟩
  · rintro ⟨i, j, rfl, h1, h2⟩
    exact ⟨j, List.mem_range.mpr h2, List.mem_map.mpr ⟨i, List.mem_range.mpr h1, rfl⟩⟩
theorem col_nd (k : Nat) : (colP k).Nodup := by
  unfold colP List.Nodup
  rw [List.pairwise_flatMap]
  refine ⟨fun a _ => ?_, ?_⟩
  · unfold colR
    rw [List.pairwise_map]
    refine List.Pairwise.imp ?_ List.pairwise_lt_range
    intro x y h e
    have : (x : Int) = y := (Prod.mk.inj e).1
    omega
  · refine List.Pairwise.imp ?_ List.pairwise_lt_range
    intro a b h x hx y hy e
    unfold colR at hx hy
    obtain ⟨_, _, rfl⟩ := List.mem_map.mp hx
    obtain ⟨_, _, rfl⟩ := List.mem_map.mp hy
    have : (a : Int) = b := (Prod.mk.inj e).2
    omega
theorem col_perm (k : Nat) : (colP k).Perm (pairsL k) := (List.perm_ext_iff_of_nodup (col_nd k) (pairs_nd k)).mpr fun p => by rw [col_in, pairs_iff]
theorem col_len (k : Nat) : ∀ i, i ≤ k → (colP i).length ≤ i * k
  | 0, _ => by simp [colP]
  | i + 1, h => by
    have ih := col_len k i (by omega)
    have e : colP (i + 1) = colP i ++ colR i := by unfold colP; rw [List.range_succ, List.flatMap_append]; simp
    rw [e, List.length_append, Nat.succ_mul]
    have : (colR i).length = i := by simp [colR]
    omega
def spLPart : Sp := fun vs H Q _ => ∃ (tl pl : Addr) (ns : List Int) (prs : List (Int × Int)), vs = [.ref tl, .ref pl] ∧ LsP H tl prs ∧ LsI H pl ns ∧ ns.length ≤ 30 ∧ RetP ((pairsL ns.length).filter (lpF prs ns)) H Q
theorem at_int {ns : List Int} {i : Nat} (h : i < ns.length) : (ns.map V.int)[i]? = some (.int (Jk.atI ns i)) := by
  rw [List.getElem?_map, List.getElem?_eq_getElem h]
  simp [Jk.atI, List.getD_eq_getElem?_getD, h]
section
variable {P : Program} {w : World} {K : PySem.W.Frag} {mg : Str → Option Value} {base : Heap} {A : Adr}
theorem ok_l_part (T : Txt K mg A) : FnOk P w K mg base CX0 2 A.a_l_part A.d_l_part ["_law_ties", "_law_points"] spLPart := by
  refine T.F_l_part.ok sc_l_part (fun vs H Q E h => ?_) (fun cdv C outer s H vs Q E hr h => ?_)
  · obtain ⟨tl, pl, ns, prs, rfl, _⟩ := h
    rfl
  · obtain ⟨tl, pl, ns, prs, rfl, hL, hP, hn, k⟩ := h
    have hP' : H pl = some (.lst (ns.map V.int)) := hP
    refine ⟨_, (pss_cons (ps_set (i := 2) sc_l_part.nd rfl (Or.inl rfl) (pe_lstJ pa_nil))
  (pss_cons (ps_for PassesOwn.never rfl (pi_range1 rfl T.range (pa_cons (pe_callB call_lenJ (by rfl) T.len (by decide +kernel) (pa_cons (pv 1) pa_nil)) pa_nil)) (pg_name (i := 3) sc_l_part.nd rfl (.inl rfl))
    (pss_one (ps_for PassesOwn.never rfl (pi_range1 rfl T.range (pa_cons (pv 3) pa_nil)) (pg_name (i := 4) sc_l_part.nd rfl (.inl rfl))
        (pss_cons (ps_set (i := 5) sc_l_part.nd rfl (Or.inl rfl) (pe_tupJ (pa_cons (pe_callB (call_min2 rfl) (by rfl) T.min (by decide +kernel) (pa_cons (pe_ix ix_listJ (pv 1) (pv 4) (fun _ _ => rfl)) (pa_cons (pe_ix ix_listJ (pv 1) (pv 3) (fun _ _ => rfl)) pa_nil))) (pa_cons (pe_callB (call_max2 rfl) (by rfl) T.max (by decide +kernel) (pa_cons (pe_ix ix_listJ (pv 1) (pv 4) (fun _ _ => rfl)) (pa_cons (pe_ix ix_listJ (pv 1) (pv 3) (fun _ _ => rfl)) pa_nil))) pa_nil))))
          (pss_one (ps_if (pt_cmpR (op_inP hr.u65) (pv 5) (pv 0) (by rfl))
            (pss_one (ps_expr (pe_bmL PySem.F.slot_list_append PySem.F.type_list_append mt_append (pv 2) (pa_cons (pe_tupJ (pa_cons (pv 4) (pa_cons (pv 3) pa_nil))) pa_nil))))
            pss_nil))))))
  (pss_one (ps_ret (pe_callB call_sortP (by rfl) T.sorted (by decide +kernel) (pa_cons (pv 2) pa_nil)))))), ?_⟩
    simp [L2.start, and_assoc]
    intro D H1 n1 e1 h1
    let g := lpF prs ns
    refine ⟨_, rfl, pl, _, rfl, e1 _ _ hP', ?_⟩
    have hlen0 : ((ns.map V.int).length : Int) = ns.length := by simp
    rw [hlen0]
    refine ⟨_, rfl, by omega, by omega, for_range (n := ns.length) (fun i σ H' => ∃ (b3 b4 b5 : Option V), σ = [some (.ref tl), some (.ref pl), some (.ref D), b3, b4, b5] ∧ Ex H H' ∧ LsP H' D ((colP i).filter g)) ⟨none, none, none, rfl, e1, [], h1, TupsAt.nil _⟩ (fun i σ H' hi h => ?_) (fun σ H' h => ?_)⟩
    · obtain ⟨b3, b4, b5, rfl, e, hD⟩ := h
      rw [Int.zero_add]
      refine ⟨_, rfl, i, rfl, by omega, by omega, for_range (n := i) (fun j σ H' => ∃ (b4 b5 : Option V), σ = [some (.ref tl), some (.ref pl), some (.ref D), some (.int i), b4, b5] ∧ Ex H H' ∧ LsP H' D ((colP i).filter g ++ ((colR i).take j).filter g)) ⟨b4, b5, by simp, e, by simpa using hD⟩ (fun j σ H2 hj h => ?_) (fun σ H2 h => ?_)⟩
      · obtain ⟨b4, b5, rfl, e2, us, hD1, hD2⟩ := h
        have p2 := e2 _ _ hP'
        have gi := at_int (ns := ns) (i := i) hi
        have gj := at_int (ns := ns) (i := j) (by omega)
        simp [and_assoc, p2, gi, gj]
        intro t1 H3 m1 f1 a1
        have hcol : (colR i)[j]? = some ((j : Int), (i : Int)) := by
          unfold colR
          rw [List.getElem?_map, List.getElem?_range hj]
          rfl
        have step : ((colR i).take (j + 1)).filter g = ((colR i).take j).filter g ++ (if g ((j : Int), (i : Int)) = true then [((j : Int), (i : Int))] else []) := by
          rw [List.take_add_one, hcol, List.filter_append]
          simp [List.filter_cons]
        have eg : g ((j : Int), (i : Int)) = decide (mm (Jk.atI ns j) (Jk.atI ns i) ∈ prs) := rfl
        have bound : us.length ≤ 2000 := by
          have z := hD2.1
          have z1 := List.length_filter_le g (colP i)
          have z2 := col_len ns.length i (by omega)
          have z3 : i * ns.length ≤ 30 * 30 := Nat.mul_le_mul (by omega) hn
          have z4 := List.length_filter_le g ((colR i).take j)
          have z5 : ((colR i).take j).length ≤ 30 := by rw [List.length_take]; simp [colR]; omega
          rw [List.length_append] at z
          omega
        refine ⟨_, _, a1, prs, (hL.up (e2.trans f1)), ?_⟩
        show ¬ mm (Jk.atI ns j) (Jk.atI ns i) ∈ prs ∧ _ ∨ mm (Jk.atI ns j) (Jk.atI ns i) ∈ prs ∧ _
        by_cases hm : mm (Jk.atI ns j) (Jk.atI ns i) ∈ prs
        · refine .inr ⟨hm, ⟨_, f1 _ _ hD1⟩, fun t2 H4 m2 f2 a2 => ⟨_, (f1.trans f2) _ _ hD1, lt_line (by simp; omega), ?_, us ++ [t2], ?_, ?_⟩⟩
          · exact ex_but (e2.trans (f1.trans f2)) (But.upd (M := [D]) (by simp)) (by simpa using n1)
          · rw [upd_same, List.map_append]; rfl
          · rw [step, eg, decide_eq_true hm, if_pos rfl, ← List.append_assoc]
            have ne : t2 ≠ D := fun z => by rw [z, f1 _ _ hD1] at m2; cases m2
            refine TupsAt.snoc ((hD2.up (f1.trans f2)).upd ((f1.trans f2) _ _ hD1)) ?_
            rw [upd_ne ne, a2]
        · refine .inl ⟨hm, e2.trans f1, us, f1 _ _ hD1, ?_⟩
          rw [step, eg, decide_eq_false hm, if_neg (by simp), List.append_nil]
          exact hD2.up f1
      · obtain ⟨b4, b5, rfl, e2, hD2⟩ := h
        refine ⟨_, _, _, rfl, e2, ?_⟩
        have e3 : colP (i + 1) = colP i ++ colR i := by unfold colP; rw [List.range_succ, List.flatMap_append]; simp
        rw [List.take_of_length_le (by simp [colR])] at hD2
        rw [e3, List.filter_append]
        exact hD2
    · obtain ⟨b3, b4, b5, rfl, e, hD⟩ := h
      simp [and_assoc]
      refine ⟨_, hD, fun qrs D2 H2 hp hs n2 e2 h2 => k D2 H2 (fresh_back e n2) (e.trans e2) ?_⟩
      have eq : qrs = (pairsL ns.length).filter g := List.Perm.eq_of_pairwise (fun a b _ _ x y => lexLe_anti x y) hs (((pairs_sorted _).imp fun h => by unfold lexLt at h; unfold lexLe; omega).sublist List.filter_sublist) (hp.trans ((col_perm _).filter g))
      rw [← eq]
      exact h2
end
end Jk

namespace Jk
open PySem L2 Evl
/-- no point of a web of m points -/
def BadP (H : Hp) (m : Int) (x : V) : Prop := Thing H x ∧ ∀ i, x = .int i → ¬ (0 ≤ i ∧ i < m)
def NoL (H : Hp) (m : Int) (x : V) : Prop := Lst1 H x ∧ ¬ ∃ a ns, x = .ref a ∧ LsI H a ns ∧ ns.Nodup ∧ (∀ n ∈ ns, 0 ≤ n ∧ n < m) ∧ ns ≠ []
def spSpoilt : Sp := fun vs H Q _ => ∃ (pl : Addr) (ns : List Int) (c : Int) (m : Int), vs = [.ref pl, .int c, .int m] ∧ LsI H pl ns ∧ ns ≠ [] ∧ ns.length ≤ 30 ∧ 0 ≤ c ∧ (1 ≤ m ∧ m ≤ 30) ∧ ∀ x H', Ex H H' → NoL H' m x → Q x H'
theorem noL_sc {H : Hp} {m : Int} {x : V} (t : Thing H x) (h : ∀ a xs, x = .ref a → H a ≠ some (.lst xs)) : NoL H m x :=
  ⟨⟨t, fun a xs e g => absurd g (h a xs e)⟩, fun ⟨a, ns, e, g, _⟩ => h a _ e g⟩
theorem noL_bad {H : Hp} {m : Int} {a : Addr} {xs : List V} {y : V} (h : H a = some (.lst xs)) (hl : xs.length ≤ 100) (ht : ∀ z ∈ xs, Thing H z) (hy : y ∈ xs) (b : BadP H m y) : NoL H m (.ref a) := by
  refine ⟨⟨.lst h, fun a' xs' e g => ?_⟩, fun ⟨a', ns, e, g, _, g2, _⟩ => ?_⟩
  · cases e
    rw [h] at g
    cases g
    exact ⟨hl, ht⟩
  · cases e
    unfold LsI at g
    rw [h] at g
    have e : xs = ns.map V.int := HO.lst.inj (Option.some.inj g)
    rw [e] at hy
    obtain ⟨n, hn, rfl⟩ := List.mem_map.mp hy
    exact b.2 n rfl (g2 n hn)
theorem thing_at {H : Hp} {a : Addr} (t : Thing H (.ref a)) : ∃ o, H a = some o := by
  cases t with
  | lst h => exact ⟨_, h⟩
  | tup h => exact ⟨_, h⟩
  | dK h => exact ⟨_, h⟩
theorem NoL.up {H H' : Hp} {m : Int} {x : V} (h : NoL H m x) (e : Ex H H') : NoL H' m x := by
  obtain ⟨⟨t, b⟩, n⟩ := h
  have back : ∀ a o, x = .ref a → H' a = some o → H a = some o := fun a o ex h => by
    subst ex
    obtain ⟨o', h'⟩ := thing_at t
    have := e _ _ h'
    rw [this] at h
    rw [h', h]
  refine ⟨⟨t.up e, fun a xs ex h => ?_⟩, fun ⟨a, ns, ex, h, r⟩ => n ⟨a, ns, ex, back a _ ex h, r⟩⟩
  obtain ⟨b1, b2⟩ := b a xs ex (back a _ ex h)
  exact ⟨b1, fun y hy => (b2 y hy).up e⟩
theorem BadP.up {H H' : Hp} {m : Int} {x : V} (h : BadP H m x) (e : Ex H H') : BadP H' m x := ⟨h.1.up e, h.2⟩
theorem ints_th {H : Hp} {ns : List Int} {z : V} (h : z ∈ ns.map V.int) : Thing H z := by
  obtain ⟨n, _, rfl⟩ := List.mem_map.mp h
  exact .int n
theorem noL_dup {H : Hp} {m : Int} {a : Addr} {ns : List Int} (h : LsI H a ns) (hl : ns.length ≤ 100) (hd : ¬ ns.Nodup ∨ ns = []) : NoL H m (.ref a) := by
  refine ⟨⟨.lst h, fun a' xs' e g => ?_⟩, fun ⟨a', ms, e, g, g1, _, g3⟩ => ?_⟩
  · cases e
    unfold LsI at h
    rw [h] at g
    cases g
    exact ⟨by simpa using hl, fun z hz => by obtain ⟨n, _, rfl⟩ := List.mem_map.mp hz; exact .int n⟩
  · cases e
    rw [h.uniq g] at g1 g3
    exact hd.elim (fun z => z g1) g3
theorem oddK_ix {H : Hp} {p1 p2 p3 : Addr} {m c : Int} (h1 : Thing H (.ref p1)) (h2 : Thing H (.ref p2)) (h3 : Thing H (.ref p3)) (c0 : 0 ≤ c) (k : Int) (k0 : 0 ≤ k) :
    ∃ x : V, [V.non, V.bl true, V.str (Str.ofString "0"), V.ref p1, V.ref p2, V.ref p3, V.int (-1), V.int m, V.int (m + c), V.bl false][(k % 10).toNat]? = some x ∧ BadP H m x := by
  obtain ⟨j, hj, e⟩ : ∃ j : Nat, j < 10 ∧ (k % 10).toNat = j := ⟨_, by omega, rfl⟩
  rw [e]
  match j, hj with
  | 0, _ => exact ⟨_, rfl, .non, fun i h => by cases h⟩
  | 1, _ => exact ⟨_, rfl, .bl _, fun i h => by cases h⟩
  | 2, _ => exact ⟨_, rfl, .str _, fun i h => by cases h⟩
  | 3, _ => exact ⟨_, rfl, h1, fun i h => by cases h⟩
  | 4, _ => exact ⟨_, rfl, h2, fun i h => by cases h⟩
  | 5, _ => exact ⟨_, rfl, h3, fun i h => by cases h⟩
  | 6, _ => exact ⟨_, rfl, .int _, fun i h => by cases h; omega⟩
  | 7, _ => exact ⟨_, rfl, .int _, fun i h => by cases h; omega⟩
  | 8, _ => exact ⟨_, rfl, .int _, fun i h => by cases h; omega⟩
  | 9, _ => exact ⟨_, rfl, .bl _, fun i h => by cases h⟩
section
variable {P : Program} {w : World} {K : PySem.W.Frag} {mg : Str → Option Value} {base : Heap} {A : Adr}
theorem ok_l_spoilt (T : Txt K mg A) : FnOk P w K mg base CX0 2 A.a_l_spoilt A.d_l_spoilt ["_law_points", "_law_cell", "_law_many"] spSpoilt := by
  refine T.F_l_spoilt.ok sc_l_spoilt (fun vs H Q E h => ?_) (fun cdv C outer s H vs Q E hr h => ?_)
  · obtain ⟨pl, ns, c, m, rfl, _⟩ := h
    rfl
  · obtain ⟨pl, ns, c, m, rfl, hP, hne, hlen, c0, hm, k⟩ := h
    have hP' : H pl = some (.lst (ns.map V.int)) := hP
    have hpos : 0 < ns.length := by cases ns with | nil => exact absurd rfl hne | cons _ _ => simp
    refine ⟨_, (pss_cons (ps_set (i := 3) sc_l_spoilt.nd rfl (Or.inl rfl) (pe_op op_mod (pe_op op_fdiv (pv 1) pe_int) (pe_callB call_lenJ (by rfl) T.len (by decide +kernel) (pa_cons (pv 0) pa_nil))))
  (pss_cons (ps_set (i := 4) sc_l_spoilt.nd rfl (Or.inl rfl) (pe_ix ix_listJ (pe_lstJ (pa_cons pe_non (pa_cons pe_bl (pa_cons pe_str (pa_cons (pe_lstJ (pa_cons pe_int pa_nil)) (pa_cons (pe_tupJ (pa_cons pe_int pa_nil)) (pa_cons pe_dictJ (pa_cons (pe_un un_neg pe_int) (pa_cons (pv 2) (pa_cons (pe_op op_add (pv 2) (pv 1)) (pa_cons pe_bl pa_nil))))))))))) (pe_op op_mod (pe_op op_fdiv (pv 1) pe_int) pe_int) (fun _ _ => rfl)))
  (pss_cons (ps_set (i := 5) sc_l_spoilt.nd rfl (Or.inl rfl) (pe_lstJ (pa_cons (pe_lstJ pa_nil) (pa_cons (pe_op op_catJ (pv 0) (pe_slice sl_lstJ (pv 0) (po_some (pv 3)) (po_some (pe_op op_add (pv 3) pe_int)))) (pa_cons (pe_op op_catJ (pe_op op_catJ (pe_slice sl_lstJ (pv 0) po_none (po_some (pv 3))) (pe_lstJ (pa_cons (pv 4) pa_nil))) (pe_slice sl_lstJ (pv 0) (po_some (pe_op op_add (pv 3) pe_int)) po_none)) (pa_cons (pe_op op_catJ (pv 0) (pe_lstJ (pa_cons (pv 4) pa_nil))) (pa_cons (pe_callTy call_tupJ (by rfl) T.tuple (by decide +kernel) (pa_cons (pv 0) pa_nil)) pa_nil)))))))
  (pss_cons (ps_set (i := 5) sc_l_spoilt.nd rfl (Or.inl rfl) (pe_op op_catJ (pv 5) (pe_lstJ (pa_cons pe_non (pa_cons (pe_callB call_lenJ (by rfl) T.len (by decide +kernel) (pa_cons (pv 0) pa_nil)) (pa_cons pe_str (pa_cons pe_dictJ (pa_cons (pe_lstJ (pa_cons (pv 0) pa_nil)) (pa_cons pe_bl pa_nil)))))))))
  (pss_one (ps_ret (pe_ix ix_listJ (pv 5) (pe_op op_mod (pv 1) pe_int) (fun _ _ => rfl)))))))), ?_⟩
    refine seq_by (fun σ1 H1 => σ1 = [some (.ref pl), some (.int c), some (.int m), some (.int (c / 16 % (ns.length : Int))), none, none] ∧ H1 = H) (fun N hN => ?_) (fun s1 H1 h => ?_)
    · simp [L2.start, and_assoc, hP', CDiv]
      exact ⟨by omega, hN _ _ ⟨rfl, rfl⟩⟩
    obtain ⟨rfl, rfl⟩ := h
    obtain ⟨i, hi, ei⟩ : ∃ i : Nat, i < ns.length ∧ c / 16 % (ns.length : Int) = (i : Int) := ⟨(c / 16 % (ns.length : Int)).toNat, by have := Int.emod_lt_of_pos (c / 16) (show (0 : Int) < ns.length by omega); have := Int.emod_nonneg (c / 16) (show (ns.length : Int) ≠ 0 by omega); omega, by have := Int.emod_nonneg (c / 16) (show (ns.length : Int) ≠ 0 by omega); omega⟩
    rw [ei]
    refine seq_by (fun σ1 H2 => ∃ odd, σ1 = [some (.ref pl), some (.int c), some (.int m), some (.int i), some odd, none] ∧ Ex H1 H2 ∧ BadP H2 m odd) (fun N hN => ?_) (fun s1 H2 h => ?_)
    · simp [and_assoc]
      intro p1 K1 m1 g1 l1 p2 K2 m2 g2 l2 p3 K3 m3 g3 l3 p4 K4 m4 g4 l4
      refine ⟨by simp [CDiv], _, l4, by omega, ?_⟩
      obtain ⟨x, x1, x2⟩ := oddK_ix (m := m) (Thing.lst ((g2.trans (g3.trans g4)) _ _ l1)) (Thing.tup ((g3.trans g4) _ _ l2)) (Thing.dK (g4 _ _ l3)) c0 (c / 512) (by omega)
      exact ⟨x, x1, hN _ _ ⟨x, rfl, ((g1.trans g2).trans g3).trans g4, x2⟩⟩
    obtain ⟨odd, rfl, e12, bo⟩ := h
    have hP2 := e12 _ _ hP'
    refine seq_by (fun σ1 H3 => ∃ (D a0 a1 a2 a3 a4 : Addr), σ1 = [some (.ref pl), some (.int c), some (.int m), some (.int i), some odd, some (.ref D)] ∧ Ex H2 H3 ∧ H3 D = some (.lst [.ref a0, .ref a1, .ref a2, .ref a3, .ref a4]) ∧ NoL H3 m (.ref a0) ∧ NoL H3 m (.ref a1) ∧ NoL H3 m (.ref a2) ∧ NoL H3 m (.ref a3) ∧ NoL H3 m (.ref a4)) (fun N hN => ?_) (fun s1 H3 h => ?_)
    · simp [and_assoc]
      intro a0 K0 m0 g0 l0
      refine ⟨_, g0 _ _ hP2, by omega, fun s1 K1 m1 g1 l1 => ?_⟩
      have x1 := g0.trans g1
      simp [x1 _ _ hP2, l1]
      refine ⟨by omega, fun a1 K2 m2 g2 l2 => ?_⟩
      have x2 := x1.trans g2
      refine ⟨_, x2 _ _ hP2, fun s2 K3 m3 g3 l3 s3 K4 m4 g4 l4 => ?_⟩
      have x4 := (x2.trans g3).trans g4
      simp [g4 _ _ l3, l4]
      refine ⟨by omega, fun s4 K5 m5 g5 l5 => ?_⟩
      have x5 := x4.trans g5
      refine ⟨_, x5 _ _ hP2, by omega, fun s5 K6 m6 g6 l6 => ?_⟩
      have x6 := x5.trans g6
      simp [g6 _ _ l5, l6]
      refine ⟨by omega, fun a2 K7 m7 g7 l7 s6 K8 m8 g8 l8 => ?_⟩
      have x8 := (x6.trans g7).trans g8
      simp [x8 _ _ hP2, l8]
      refine ⟨by omega, fun a3 K9 m9 g9 l9 => ?_⟩
      have x9 := x8.trans g9
      refine ⟨_, x9 _ _ hP2, fun a4 K10 m10 g10 l10 D K11 m11 g11 l11 => ?_⟩
      have y10 := g10.trans g11
      have y9 := g9.trans y10
      have y7 := (g7.trans g8).trans y9
      have y7' := g8.trans y9
      have y2 := (g3.trans g4).trans ((g5.trans g6).trans y7)
      have y0 := (g1.trans g2).trans y2
      have x11 := g0.trans y0
      have bo11 := bo.up x11
      have thO : ∀ z : V, z ∈ [odd] → Thing K11 z := fun z hz => by rw [List.mem_singleton.mp hz]; exact bo11.1
      have q0 : NoL K11 m (.ref a0) := noL_dup (ns := []) (y0 _ _ l0) (by simp) (.inr rfl)
      have hns : ns[i]? = some ns[i] := List.getElem?_eq_getElem hi
      have one : (List.map V.int ns ++ List.drop i (List.take (i + 1) (List.map V.int ns))) = (ns ++ [ns[i]]).map V.int := by
        rw [List.map_append, List.take_add_one, List.getElem?_map, hns, List.drop_append]
        simp [show i ≤ ns.length by omega, show min i ns.length = i by omega]
      have q1 : NoL K11 m (.ref a1) := noL_dup (ns := ns ++ [ns[i]]) (by
        unfold LsI
        rw [← one]
        exact y2 _ _ l2) (by simp; omega) (.inl fun z => by
        have := List.nodup_append.mp z
        exact this.2.2 _ (List.getElem_mem hi) _ (by simp) rfl)
      have q2 : NoL K11 m (.ref a2) := noL_bad (y7' _ _ l7) (by simp; omega) (fun z hz => by
        simp only [List.mem_append, List.mem_cons, List.not_mem_nil, or_false] at hz
        rcases hz with hz | rfl | hz
        · rw [List.map_take.symm] at hz
          exact ints_th (List.mem_of_mem_take (by rw [List.map_take] at hz; exact hz))
        · exact bo11.1
        · exact ints_th (List.mem_of_mem_drop hz)) (by simp) bo11
      have q3 : NoL K11 m (.ref a3) := noL_bad (y10 _ _ l9) (by simp; omega) (fun z hz => by
        simp only [List.mem_append, List.mem_cons, List.not_mem_nil, or_false] at hz
        rcases hz with hz | rfl
        · exact ints_th hz
        · exact bo11.1) (by simp) bo11
      have q4 : NoL K11 m (.ref a4) := noL_sc (.tup (g11 _ _ l10)) fun a xs e g => by
        cases e
        rw [g11 _ _ l10] at g; cases g
      exact hN _ _ ⟨D, a0, a1, a2, a3, a4, rfl, x11, l11, q0, q1, q2, q3, q4⟩
    obtain ⟨D, a0, a1, a2, a3, a4, rfl, e23, hD, b0, b1, b2, b3, b4⟩ := h
    simp [and_assoc]
    refine ⟨_, e23 _ _ hP2, fun d1 K1 m1 g1 l1 d2 K2 m2 g2 l2 d3 K3 m3 g3 l3 => ?_⟩
    have x3 := (g1.trans g2).trans g3
    simp [x3 _ _ hD, l3]
    intro D2 K4 m4 g4 l4
    have x4 := x3.trans g4
    refine ⟨_, l4, by omega, ?_⟩
    have e14 : Ex H1 K4 := (e12.trans e23).trans x4
    obtain ⟨j, hj, e⟩ : ∃ j : Nat, j < 11 ∧ (c % 11).toNat = j := ⟨_, by omega, rfl⟩
    rw [e]
    match j, hj with
    | 0, _ => exact ⟨_, rfl, k _ K4 e14 (b0.up x4)⟩
    | 1, _ => exact ⟨_, rfl, k _ K4 e14 (b1.up x4)⟩
    | 2, _ => exact ⟨_, rfl, k _ K4 e14 (b2.up x4)⟩
    | 3, _ => exact ⟨_, rfl, k _ K4 e14 (b3.up x4)⟩
    | 4, _ => exact ⟨_, rfl, k _ K4 e14 (b4.up x4)⟩
    | 5, _ => exact ⟨_, rfl, k _ K4 e14 (noL_sc .non fun a xs e => by cases e)⟩
    | 6, _ => exact ⟨_, rfl, k _ K4 e14 (noL_sc (.int _) fun a xs e => by cases e)⟩
    | 7, _ => exact ⟨_, rfl, k _ K4 e14 (noL_sc (.str _) fun a xs e => by cases e)⟩
    | 8, _ => exact ⟨_, rfl, k _ K4 e14 (noL_sc (.dK ((g2.trans (g3.trans g4)) _ _ l1)) fun a xs e g => by
        cases e
        rw [(g2.trans (g3.trans g4)) _ _ l1] at g; cases g)⟩
    | 9, _ => exact ⟨_, rfl, k _ K4 e14 (noL_bad ((g3.trans g4) _ _ l2) (by simp) (fun z hz => by
        rw [List.mem_singleton.mp hz]
        exact .lst (((e12.trans e23).trans x4) _ _ hP')) (by simp) ⟨.lst (((e12.trans e23).trans x4) _ _ hP'), fun i h => by cases h⟩)⟩
    | 10, _ => exact ⟨_, rfl, k _ K4 e14 (noL_sc (.bl _) fun a xs e => by cases e)⟩
end
end Jk

namespace Jk
open PySem L2 Evl
theorem sql_up {K : PySem.W.Frag} {H H' : Hp} {a : Addr} {xs : List V} (h : SqL K H a xs) (e : Ex H H') : SqL K H' a xs := by
  rcases h with (h | ⟨o, h⟩) | h
  · exact .inl (.inl (e _ _ h))
  · exact .inl (.inr ⟨o, e _ _ h⟩)
  · exact .inr h
def spLWeb (A : Adr) (K : PySem.W.Frag) : Sp := fun vs H Q _ => ∃ (a : Addr) (ns : List Int) (n : Nat), vs = [.ref a, .int n] ∧ SqL K H a (ns.map V.int) ∧ (1 ≤ n ∧ n ≤ 30) ∧
  ∀ q p l ds rows tl prs H', Ex H H' → H' q = some (.tup [.ref p, .ref tl]) → WebAt A.c_Web H' p l ds rows → Good rows → LsP H' tl prs → Rel rows n prs → H p = none → H l = none → (∀ d ∈ ds, H d = none) → H tl = none → l ≠ tl → Q (.ref q) H'
theorem mm_tie (i j : Nat) : mm i j = tieN i j := by
  unfold mm tieN
  refine Prod.ext ?_ ?_
  · show (if (j : Int) < i then (j : Int) else i) = ((min i j : Nat) : Int); split <;> omega
  · show (if (i : Int) < j then (j : Int) else i) = ((max i j : Nat) : Int); split <;> omega
structure WT (A : Adr) (H0 H : Hp) (n : Nat) (p l : Addr) (ds : List Addr) (tl : Addr) : Prop where
  ex : Ex H0 H
  wb : ∃ rows prs, WebAt A.c_Web H p l ds rows ∧ Good rows ∧ LsP H tl prs ∧ Rel rows n prs
section
variable {P : Program} {w : World} {K : PySem.W.Frag} {mg : Str → Option Value} {base : Heap} {A : Adr}
theorem ok_l_web (T : Txt K mg A) : FnOk P w K mg base CX0 6 A.a_l_web A.d_l_web ["_law_script", "_law_many"] (spLWeb A K) := by
  refine T.F_l_web.ok sc_l_web (fun vs H Q E h => ?_) (fun cdv C outer s H vs Q E hr h => ?_)
  · obtain ⟨a, ns, n, rfl, _⟩ := h
    rfl
  · obtain ⟨a, ns, n, rfl, hS, hn, k⟩ := h
    have hu := hu_of hr
    refine ⟨_, (pss_cons (ps_set (i := 2) sc_l_web.nd rfl (Or.inl rfl) (pe_make T.mk_Web (ok_Web_init T) (hr.mono (by decide)) rfl T.gWeb T.b_Web_init .nil passL (pa_cons (pv 1) pa_nil)))
  (pss_cons (ps_set (i := 3) sc_l_web.nd rfl (Or.inl rfl) (pe_lstJ pa_nil))
  (pss_cons (ps_for PassesOwn.never rfl (pi_range1 rfl T.range (pa_cons (pe_op op_add pe_int (pe_callB (call_min2 rfl) (by rfl) T.min (by decide +kernel) (pa_cons (pe_callB call_len_seq (by rfl) T.len (by decide +kernel) (pa_cons (pv 0) pa_nil)) (pa_cons pe_int pa_nil)))) pa_nil)) (pg_name (i := 4) sc_l_web.nd rfl (.inl rfl))
    (pss_cons (ps_set (i := 5) sc_l_web.nd rfl (Or.inl rfl) (pe_call (ok_l_number T) (hr.mono (by decide)) rfl T.g_l_number T.k_l_number T.b_l_number .nil pass0 (pa_cons (pv 0) (pa_cons (pe_op op_add (pv 4) pe_int) pa_nil))))
      (pss_one (ps_for PassesOwn.never rfl (pi_range1 rfl T.range (pa_cons (pe_op op_add pe_int (pe_op op_mod (pe_op op_fdiv (pv 5) pe_int) pe_int)) pa_nil)) (pg_name (i := 6) sc_l_web.nd rfl (.inl rfl))
        (pss_cons (ps_set (i := 7) sc_l_web.nd rfl (Or.inl rfl) (pe_op op_mod (pe_op op_add (pe_op op_fdiv (pv 5) (pe_op op_add pe_int (pv 6))) (pv 6)) (pv 1)))
          (pss_cons (ps_set (i := 8) sc_l_web.nd rfl (Or.inl rfl) (pe_op op_mod (pe_op op_fdiv (pv 5) (pe_op op_add pe_int (pe_op op_mul pe_int (pv 6)))) (pv 1)))
          (pss_cons (ps_set (i := 9) sc_l_web.nd rfl (Or.inl rfl) (pe_tupJ (pa_cons (pe_callB (call_min2 rfl) (by rfl) T.min (by decide +kernel) (pa_cons (pv 7) (pa_cons (pv 8) pa_nil))) (pa_cons (pe_callB (call_max2 rfl) (by rfl) T.max (by decide +kernel) (pa_cons (pv 7) (pa_cons (pv 8) pa_nil))) pa_nil))))
          (pss_one (ps_if (PW.pt (pw_and (pt_cmpR op_ne (pv 7) (pv 8) (nomark _)) (pw_and1 (pt_cmpR (op_notInP hr.u65) (pv 9) (pv 3) (by rfl)))))
            (pss_cons (ps_expr (pe_bmL PySem.F.slot_list_append PySem.F.type_list_append mt_append (pv 3) (pa_cons (pv 9) pa_nil)))
              (pss_one (ps_expr (pe_meth (pv 2) T.cl_Web T.m_Web_put (ok_Web_put T) (hr.mono (by decide)) T.b_Web_put .nil passL (pa_cons (pv 7) (pa_cons (pv 8) pa_nil))))))
            pss_nil)))))))))
  (pss_one (ps_ret (pe_tupJ (pa_cons (pv 2) (pa_cons (pv 3) pa_nil)))))))), ?_⟩
    simp [L2.start, and_assoc]
    intro p dx n1 n2 n3
    refine ⟨p, dx, _, rfl, upd_same, .int _, fun z => ?_, fun z l ds H1 W1 b1 nl nds => ⟨rfl, ?_⟩⟩
    · have zz : ¬ ((1 : Int) ≤ n ∧ (n : Int) ≤ 30) := by simpa [inR] using z
      omega
    have eX : Ex H (upd (upd H dx (.own p)) p (.ins A.c_Web dx [])) := fun b o e => by
      rw [upd_ne (ne_of_none e n1), upd_ne (ne_of_none e n2)]; exact e
    have e01 : Ex H H1 := fun b o e => b1.kp b o (eX b o e) (by simpa using ne_of_none e n1)
    have nX : ∀ x, (upd (upd H dx (.own p)) p (.ins A.c_Web dx [])) x = none → H x = none := fun x z => fresh_back eX z
    have e1n : (iOf (.int (n : Int))).toNat = n := by simp [iOf]
    rw [e1n] at W1
    intro tl H2 nt e2 h2
    have ltl : l ≠ tl := ne_of_none W1.ls nt
    have fl := nX _ nl
    have fds : ∀ d ∈ ds, H d = none := fun d hd => nX _ (nds d hd)
    have ftl : H tl = none := fresh_back e01 nt
    have e02 := e01.trans e2
    have S0 : WT A H H2 n p l ds tl := ⟨e02, _, [], W1.up e2, good_init hn.1 hn.2, ⟨[], h2, TupsAt.nil _⟩, rel_init⟩
    have hS2 := sql_up hS e02
    have hlen : ((ns.map V.int).length : Int) = ns.length := by rw [List.length_map]
    refine ⟨_, rfl, a, rfl, _, .inl hS2, _, _, rfl, _, _, rfl, rfl, _, rfl, by rw [hlen]; split <;> omega, by rw [hlen]; split <;> omega, for_range (fun i σ H' => ∃ (b4 b5 b6 b7 b8 b9 : Option V), σ = [some (.ref a), some (.int n), some (.ref p), some (.ref tl), b4, b5, b6, b7, b8, b9] ∧ WT A H H' n p l ds tl) ⟨none, none, none, none, none, none, rfl, S0⟩ (fun i σ H' hi h => ?_) (fun σ H' h => ?_)⟩
    · obtain ⟨b4, b5, b6, b7, b8, b9, rfl, S⟩ := h
      have hi : i < 67 := by rw [hlen] at hi; split at hi <;> omega
      have hS1 := sql_up hS S.ex
      rw [Int.zero_add]
      refine seq_by (fun σ1 H1 => ∃ c : Int, σ1 = [some (.ref a), some (.int n), some (.ref p), some (.ref tl), some (.int i), some (.int c), b6, b7, b8, b9] ∧ 0 ≤ c ∧ c < 600000000 ∧ H1 = H') (fun N hN => ?_) (fun s1 H1 m => ?_)
      · simp [and_assoc, spNumber]
        exact ⟨ns, hS1, by omega, by omega, hN _ _ ⟨_, rfl, mixed_nn _ _, mixed_lt _ _, rfl⟩⟩
      obtain ⟨c, rfl, c0, c1, rfl⟩ := m
      refine ⟨_, rfl, c, 1000, rfl, rfl, ⟨by omega, by omega⟩, _, _, rfl, rfl, by omega, _, _, rfl, rfl, _, rfl, by omega, by omega, for_range (fun j σ H' => ∃ (b6 b7 b8 b9 : Option V), σ = [some (.ref a), some (.int n), some (.ref p), some (.ref tl), some (.int i), some (.int c), b6, b7, b8, b9] ∧ WT A H H' n p l ds tl) ⟨b6, b7, b8, b9, rfl, S⟩ (fun j σ H' hj h => ?_) (fun σ H' h => ?_)⟩
      · obtain ⟨b6, b7, b8, b9, rfl, ⟨e, rows, prs, W, G, hL, R⟩⟩ := h
        have hj : j < 6 := by omega
        rw [Int.zero_add]
        refine seq_by (fun σ1 H2 => ∃ x : Nat, x < n ∧ σ1 = [some (.ref a), some (.int n), some (.ref p), some (.ref tl), some (.int i), some (.int c), some (.int j), some (.int x), b8, b9] ∧ H2 = H') (fun N hN => ?_) (fun s1 H2 m => ?_)
        · have q0 := Int.emod_nonneg (c / (1 + (j : Int)) + j) (show (n : Int) ≠ 0 by omega)
          have q1 := Int.emod_lt_of_pos (c / (1 + (j : Int)) + j) (show (0 : Int) < n by omega)
          simp [and_assoc, CDiv]
          refine ⟨by omega, by omega, by omega, hN _ _ ⟨((c / (1 + (j : Int)) + j) % n).toNat, by omega, ?_, rfl⟩⟩
          rw [show ((((c / (1 + (j : Int)) + j) % n).toNat : Nat) : Int) = (c / (1 + (j : Int)) + j) % n by omega]
        obtain ⟨x, hx, rfl, rfl⟩ := m
        refine seq_by (fun σ1 H3 => ∃ y : Nat, y < n ∧ σ1 = [some (.ref a), some (.int n), some (.ref p), some (.ref tl), some (.int i), some (.int c), some (.int j), some (.int x), some (.int y), b9] ∧ H3 = H2) (fun N hN => ?_) (fun s1 H3 m => ?_)
        · have q0 := Int.emod_nonneg (c / (7 + 30 * (j : Int))) (show (n : Int) ≠ 0 by omega)
          have q1 := Int.emod_lt_of_pos (c / (7 + 30 * (j : Int))) (show (0 : Int) < n by omega)
          simp [and_assoc, CDiv, CMul]
          refine ⟨by omega, by omega, by omega, hN _ _ ⟨(c / (7 + 30 * (j : Int)) % n).toNat, by omega, ?_, rfl⟩⟩
          rw [show (((c / (7 + 30 * (j : Int)) % n).toNat : Nat) : Int) = c / (7 + 30 * (j : Int)) % n by omega]
        obtain ⟨y, hy, rfl, rfl⟩ := m
        simp [and_assoc]
        intro t1 H4 m1 f1 a1
        have e4 := e.trans f1
        have W4 := W.up f1
        have hL4 := hL.up f1
        have hp4 : PrA H4 t1 (tieN x y) := by
          unfold PrA
          rw [a1]
          unfold tieN
          congr 3
          · congr 1; split <;> omega
          · congr 2; split <;> omega
        by_cases hxy : x = y
        · exact .inl ⟨by omega, e4, rows, prs, W4, G, hL4, R⟩
        · refine .inr ⟨by omega, (tieN x y).1, (tieN x y).2, hp4, prs, hL4, ?_⟩
          rw [show (((tieN x y).1, (tieN x y).2) : Int × Int) = tieN x y from rfl]
          have hrn := R.n
          have few := R.few G
          by_cases hm : tieN x y ∈ prs
          · exact .inl ⟨hm, e4, rows, prs, W4, G, hL4, R⟩
          · obtain ⟨ts, ht1, ht2⟩ := id hL4
            have nt : ¬ tN rows x y := fun z => hm ((R.tie G hxy).mpr z)
            have bT : ∀ o, But [tl] H4 (upd H4 tl o) := fun o => But.upd (by simp)
            have Wb : WebAt A.c_Web (upd H4 tl (.lst (ts.map V.ref ++ [.ref t1]))) p l ds rows := W4.but (bT _) fun z hz => by
              rw [List.mem_singleton.mp hz]
              refine ⟨fun q => ?_, fun q => ltl q.symm, fun q => ?_⟩
              · obtain ⟨dx', w⟩ := W4.ob
                rw [← q, ht1] at w; cases w
              · obtain ⟨kv, w⟩ := W4.dAt q
                rw [ht1] at w; cases w
            obtain ⟨dxb, wb⟩ := Wb.ob
            have ok2 : okTwo rows (.int x) (.int y) = true := by
              unfold okTwo
              rw [okPt_of (by omega) (by simp; omega), okPt_of (by omega) (by simp; omega)]
              simp; omega
            have nti : tied rows x y = false := by
              cases q : tied rows x y with
              | false => rfl
              | true => exact absurd ((tied_iff rows x y).mp q) nt
            refine .inr ⟨hm, ⟨_, ht1⟩, _, ht1, lt_line (by have := ht2.1; simp; omega), dxb, _, wb, wf_put l, ?_⟩
            have sm : ∀ r ∈ rows, r.length ≤ 100 := fun r hr => Nat.le_trans (G.small r hr) (by decide)
            have c1' : ∀ {α : Prop}, okTwo rows (.int x) (.int y) = false → α := fun z => by rw [ok2] at z; cases z
            have c2' : ∀ {α : Prop}, tied rows (iOf (.int x)) (iOf (.int y)) = true → α := fun z => by
              have z : tied rows x y = true := z
              rw [nti] at z
              cases z
            refine ⟨p, l, ds, rows, _, _, rfl, Wb, .int _, .int _, G.sy, sm, fun z => c1' z, fun _ z => c2' z, fun _ _ H5 W5 b5 => ?_⟩
            have W5 : WebAt A.c_Web H5 p l ds (putR rows x y) := by simpa [iOf] using W5
            have htl : (upd H4 tl (.lst (ts.map V.ref ++ [.ref t1]))) tl = some (.lst ((ts ++ [t1]).map V.ref)) := by rw [upd_same, List.map_append]; rfl
            have h2' : TupsAt (upd H4 tl (.lst (ts.map V.ref ++ [.ref t1]))) (ts ++ [t1]) (prs ++ [tieN x y]) := by
              refine TupsAt.snoc (ht2.upd ht1) ?_
              rw [upd_ne (ne_of hp4 ht1 (by simp))]
              exact hp4
            refine ⟨ex_but (ex_but e4 (bT _) (by simpa using ftl)) b5 fds, _, prs ++ [tieN x y], W5, good_put G (by omega) (by omega) hxy nt, ⟨ts ++ [t1], Wb.kp b5 htl (by simp), Wb.kpT b5 h2'⟩, rel_put G R (by omega) (by omega) hxy nt⟩
      · obtain ⟨b6, b7, b8, b9, rfl, S⟩ := h
        exact ⟨_, _, _, _, _, _, rfl, S⟩
    · obtain ⟨b4, b5, b6, b7, b8, b9, rfl, ⟨e, rows, prs, W, G, hL, R⟩⟩ := h
      simp
      intro q H3 n3 e3 h3
      exact k q p l ds rows tl prs H3 (e.trans e3) h3 (W.up e3) G (hL.up e3) R n1 fl fds ftl ltl
end
end Jk

namespace Jk
open PySem L2 Evl
theorem Rel.congr {rows : List (List Int)} {n : Int} {as bs : List (Int × Int)} (R : Rel rows n as) (nd : bs.Nodup) (h : ∀ p, p ∈ bs ↔ p ∈ as) : Rel rows n bs := ⟨R.n, nd, fun p => (h p).trans (R.ti p)⟩
theorem rel_pair {rows : List (List Int)} {n : Int} {ties : List (Int × Int)} (G : Good rows) (R : Rel rows n ties) {i j : Nat} (h : i < j) : ((i : Int), (j : Int)) ∈ ties ↔ tN rows i j := by
  have e : tieN i j = ((i : Int), (j : Int)) := by unfold tieN; rw [show min i j = i by omega, show max i j = j by omega]
  rw [← e]
  exact R.tie G (by omega)
theorem rel_tied {rows : List (List Int)} {n : Int} {ties : List (Int × Int)} (G : Good rows) (R : Rel rows n ties) {i j : Nat} (h : i < j) : tied rows i j = decide (((i : Int), (j : Int)) ∈ ties) := by
  rw [Bool.eq_iff_iff, decide_eq_true_iff, rel_pair G R h, tied_iff]
theorem rel_in {rows : List (List Int)} {n : Nat} {ties : List (Int × Int)} (G : Good rows) (R : Rel rows n ties) {p : Int × Int} (h : p ∈ ties) : p ∈ pairsL n := by
  obtain ⟨i, j, rfl, h1, h2⟩ := (R.ti p).mp h
  have := (G.lt h2).2
  have e := R.n
  exact pairs_iff.mpr ⟨i, j, rfl, h1, by omega⟩
theorem others_eq {rows : List (List Int)} {n : Nat} {ties : List (Int × Int)} (G : Good rows) (R : Rel rows n ties) : (pairsL n).filter (oppF rows) = (pairsL n).filter (othF ties) := List.filter_congr fun p hp => by
  obtain ⟨i, j, rfl, h1, h2⟩ := pairs_iff.mp hp
  show (!tied rows i j) = !decide (((i : Int), (j : Int)) ∈ ties)
  rw [rel_tied G R h1]
theorem part_eq {rows : List (List Int)} {n : Nat} {ties : List (Int × Int)} {ns : List Int} (G : Good rows) (R : Rel rows n ties) (nd : ns.Nodup) (h : ∀ z ∈ ns, 0 ≤ z ∧ z < (n : Int)) : (pairsL ns.length).filter (partF rows ns) = (pairsL ns.length).filter (lpF ties ns) := List.filter_congr fun p hp => by
  obtain ⟨i, j, rfl, h1, h2⟩ := pairs_iff.mp hp
  show tied rows (Jk.atI ns i) (Jk.atI ns j) = decide (mm (Jk.atI ns i) (Jk.atI ns j) ∈ ties)
  have hi : i < ns.length := by omega
  have ei : Jk.atI ns i = ns[i] := by simp [Jk.atI, List.getD_eq_getElem?_getD, hi]
  have ej : Jk.atI ns j = ns[j] := by simp [Jk.atI, List.getD_eq_getElem?_getD, h2]
  have ri := h _ (List.getElem_mem hi)
  have rj := h _ (List.getElem_mem h2)
  have ne := List.pairwise_iff_getElem.mp nd i j hi h2 h1
  rw [ei, ej]
  obtain ⟨x, hx⟩ : ∃ x : Nat, ns[i] = (x : Int) := ⟨ns[i].toNat, by omega⟩
  obtain ⟨y, hy⟩ : ∃ y : Nat, ns[j] = (y : Int) := ⟨ns[j].toNat, by omega⟩
  rw [hx, hy] at ne
  rw [hx, hy, mm_tie, Bool.eq_iff_iff, decide_eq_true_iff, R.tie G (by omega), tied_iff]
theorem filter_nd {n : Nat} (f : Int × Int → Bool) : ((pairsL n).filter f).Nodup := (pairs_nd n).sublist List.filter_sublist
/-- the opposite of the opposite -/
theorem opp_opp {rows rowsO rows2 : List (List Int)} {n : Nat} {prs : List (Int × Int)} (G : Good rows) (R : Rel rows n prs) (GO : Good rowsO) (RO : Rel rowsO n ((pairsL n).filter (oppF rows))) (R2 : Rel rows2 n ((pairsL n).filter (oppF rowsO))) : Rel rows2 n prs := by
  refine R2.congr R.nd fun p => ?_
  rw [others_eq GO RO, others_eq G R]
  rw [List.mem_filter]
  unfold othF
  constructor
  · intro h
    refine ⟨rel_in G R h, ?_⟩
    simp [h]
  · rintro ⟨h1, h2⟩
    simp at h2
    exact h2.resolve_left fun q => q h1
theorem others_congr {n : Nat} {as bs : List (Int × Int)} (h : ∀ p, p ∈ as ↔ p ∈ bs) : (pairsL n).filter (othF as) = (pairsL n).filter (othF bs) := List.filter_congr fun p _ => by
  show (!decide (p ∈ as)) = !decide (p ∈ bs)
  simp [h p]
/-- unlike points below n, some -/
structure Pts (n : Nat) (ns : List Int) : Prop where
  nd : ns.Nodup
  rg : ∀ z ∈ ns, 0 ≤ z ∧ z < (n : Int)
  ne : ns ≠ []
theorem Pts.le {n : Nat} {ns : List Int} (h : Pts n ns) : ns.length ≤ n := nd_len h.nd h.rg
theorem Pts.pos {n : Nat} {ns : List Int} (h : Pts n ns) : 1 ≤ ns.length := by
  cases ns with
  | nil => exact absurd rfl h.ne
  | cons _ _ => simp
theorem pts_take {n : Nat} {ns : List Int} {c : Int} (hp : ns.Perm (rngI n)) (hn : 1 ≤ n) (hc : 0 ≤ c) : Pts n (ns.take (1 + c).toNat) := by
  refine ⟨(hp.nodup_iff.mpr (rng_nd n)).sublist (List.take_sublist _ _), fun z hz => ?_, fun e => ?_⟩
  · exact rng_in.mp (hp.mem_iff.mp (List.mem_of_mem_take hz))
  · have l := hp.length_eq
    have e' := congrArg List.length e
    rw [List.length_take, l] at e'
    simp [rngI] at e'
    omega
theorem LsI.up {H H' : Hp} {l : Addr} {ns : List Int} (h : LsI H l ns) (e : Ex H H') : LsI H' l ns := e _ _ h
theorem LsP.but {H H' : Hp} {M : List Addr} {l : Addr} {prs : List (Int × Int)} (h : LsP H l prs) (b : But M H H') (n : l ∉ M) (nt : ∀ m ∈ M, ∀ o, H m ≠ some (.tup o)) : LsP H' l prs := by
  obtain ⟨ts, h1, h2⟩ := h
  exact ⟨ts, b.kp _ _ h1 n, h2.map fun t o e => b.kp _ _ e fun z => nt t z o e⟩
theorem Pts.lst1 {H : Hp} {n : Nat} {l : Addr} {ns : List Int} (h : LsI H l ns) (p : Pts n ns) (hn : n ≤ 30) : Lst1 H (.ref l) := ⟨.lst h, fun a xs e g => by
  cases e
  unfold LsI at h
  rw [h] at g
  cases g
  have := p.le
  exact ⟨by rw [List.length_map]; omega, fun y hy => ints_th hy⟩⟩
theorem spPart_ok {A : Adr} {H : Hp} {p l hd : Addr} {ds : List Addr} {rows : List (List Int)} {qs : List Int} {n : Nat} {Q : VK} {E : XK} (W : WebAt A.c_Web H p l ds rows) (G : Good rows) (P : Pts n qs) (h : LsI H hd qs) (er : rows.length = n) (hn : n ≤ 30) (k : RetWeb A.c_Web (partF rows qs) qs.length H Q) : spPart A [.ref p, .ref hd] H Q E := by
  have rg : ∀ z ∈ qs, 0 ≤ z ∧ z < (rows.length : Int) := fun z hz => by have := P.rg z hz; omega
  refine ⟨p, l, ds, rows, .ref hd, rfl, W, G, P.lst1 h hn, fun z => absurd ⟨hd, qs, rfl, h, P.nd, rg, P.ne⟩ z, fun a ns e g _ _ _ => ?_⟩
  cases e
  rw [h.uniq g]
  exact k
theorem spIs_ok {A : Adr} {H : Hp} {p l tl : Addr} {ds : List Addr} {rows : List (List Int)} {prs : List (Int × Int)} {m : Int} {Q : VK} {E : XK} (W : WebAt A.c_Web H p l ds rows) (G : Good rows) (hL : LsP H tl prs) (R : Rel rows m prs) (k : ∀ H', Ex H H' → Q (.bl true) H') : spIs A [.ref p, .int m, .ref tl] H Q E :=
  ⟨p, l, ds, rows, tl, prs, m, rfl, W, G, hL, R, k⟩
theorem erase_in {prs : List (Int × Int)} {k : Nat} {x : Int × Int} (nd : prs.Nodup) (h : prs[k]? = some x) : (prs.eraseIdx k).Nodup ∧ ∀ p, p ∈ prs.eraseIdx k ↔ p ∈ prs ∧ p ≠ x := by
  have hp := erase_perm prs k x h
  have nd' := hp.nodup_iff.mpr nd
  obtain ⟨h1, h2⟩ := List.nodup_cons.mp nd'
  refine ⟨h2, fun p => ⟨fun hq => ⟨hp.mem_iff.mp (List.mem_cons_of_mem _ hq), fun e => h1 (e ▸ hq)⟩, fun ⟨hq, ne⟩ => ?_⟩⟩
  rcases List.mem_cons.mp (hp.mem_iff.mpr hq) with e | z
  · exact absurd e ne
  · exact z
theorem erase_rel {rows : List (List Int)} {n : Int} {prs : List (Int × Int)} {k i j : Nat} (G : Good rows) (R : Rel rows n prs) (h : prs[k]? = some ((i : Int), (j : Int))) : tied rows j i = true ∧ i < rows.length ∧ j < rows.length ∧ i < j ∧ Good (takeR rows j i) ∧ Rel (takeR rows j i) n (prs.eraseIdx k) := by
  obtain ⟨a, b, e, hab, ht⟩ := (R.ti _).mp (List.mem_of_getElem? h)
  have e1 : (i : Int) = a := (Prod.mk.inj e).1
  have e2 : (j : Int) = b := (Prod.mk.inj e).2
  have ei : i = a := by omega
  have ej : j = b := by omega
  subst ei ej
  have hl := G.lt ht
  have et : tieN j i = ((i : Int), (j : Int)) := by unfold tieN; rw [show min j i = i by omega, show max j i = j by omega]
  refine ⟨(tied_iff rows j i).mpr (G.symm ht), hl.1, hl.2, hab, good_take G hl.2 hl.1 (by omega), ?_⟩
  have z := rel_take R hl.2 hl.1 (show j ≠ i by omega)
  rw [et] at z
  obtain ⟨n1, n2⟩ := erase_in R.nd h
  refine z.congr n1 fun p => ?_
  rw [n2, List.mem_filter]
  simp
end Jk

namespace Jk
open PySem L2 Evl
def spLaw (K : PySem.W.Frag) : Sp := fun vs H Q _ => ∃ (a : Addr) (ns : List Int), vs = [.ref a] ∧ SqL K H a (ns.map V.int) ∧ ns.length ≤ 63 ∧ ∀ H', Q (.bl true) H'
theorem many_ix {c d : Int} (k : Int) (hk : 0 ≤ k) : ∃ m : Nat, [V.int (1 + c % 30), V.int (1 + d % 9), V.int 30][(k % 3).toNat]? = some (V.int m) ∧ 1 ≤ m ∧ m ≤ 30 := by
  obtain ⟨j, hj, e⟩ : ∃ j : Nat, j < 3 ∧ (k % 3).toNat = j := ⟨_, by omega, rfl⟩
  rw [e]
  match j, hj with
  | 0, _ => exact ⟨(1 + c % 30).toNat, by show some (V.int _) = some (V.int _); rw [show (((1 + c % 30).toNat : Nat) : Int) = 1 + c % 30 by omega], by omega, by omega⟩
  | 1, _ => exact ⟨(1 + d % 9).toNat, by show some (V.int _) = some (V.int _); rw [show (((1 + d % 9).toNat : Nat) : Int) = 1 + d % 9 by omega], by omega, by omega⟩
  | 2, _ => exact ⟨30, rfl, by omega, by omega⟩
section
variable {P : Program} {w : World} {K : PySem.W.Frag} {mg : Str → Option Value} {base : Heap} {A : Adr}
theorem ok_law (T : Txt K mg A) : FnG P w K mg base 8 A.a_law A.d_law ["_law_script"] (spLaw K) := by
  refine T.F_law.okG sc_law (fun vs H Q E h => ?_) (fun cdv C outer s H vs Q E hg hr h => ?_)
  · obtain ⟨a, ns, rfl, _⟩ := h
    rfl
  · obtain ⟨a, ns, rfl, hS, hl, q⟩ := h
    have hu := hu_of hr
    refine ⟨_, (pss_cons (ps_set (i := 1) sc_law.nd rfl (Or.inl rfl) (pe_ix ix_listJ (pe_lstJ (pa_cons (pe_op op_add pe_int (pe_op op_mod (pe_call (ok_l_number T) (hr.mono (by decide)) rfl T.g_l_number T.k_l_number T.b_l_number .nil pass0 (pa_cons (pv 0) (pa_cons pe_int pa_nil))) pe_int)) (pa_cons (pe_op op_add pe_int (pe_op op_mod (pe_call (ok_l_number T) (hr.mono (by decide)) rfl T.g_l_number T.k_l_number T.b_l_number .nil pass0 (pa_cons (pv 0) (pa_cons pe_int pa_nil))) pe_int)) (pa_cons pe_int pa_nil)))) (pe_op op_mod (pe_call (ok_l_number T) (hr.mono (by decide)) rfl T.g_l_number T.k_l_number T.b_l_number .nil pass0 (pa_cons (pv 0) (pa_cons pe_int pa_nil))) pe_int) (fun _ _ => rfl)))
  (pss_cons (ps_asg (pe_call (ok_l_web T) (hr.mono (by decide)) rfl T.g_l_web T.k_l_web T.b_l_web .nil pass0 (pa_cons (pv 0) (pa_cons (pv 1) pa_nil))) (pg_tupJ (n := 2) rfl (pgs_cons (pg_name (i := 2) sc_law.nd rfl (.inl rfl)) (pgs_cons (pg_name (i := 3) sc_law.nd rfl (.inl rfl)) pgs_nil))))
  (pss_cons (ps_for PassesOwn.never rfl (pi_range1 rfl T.range (pa_cons pe_int pa_nil)) (pg_name (i := 4) sc_law.nd rfl (.inl rfl))
    (pss_cons (ps_set (i := 5) sc_law.nd rfl (Or.inl rfl) (pe_call (ok_l_number T) (hr.mono (by decide)) rfl T.g_l_number T.k_l_number T.b_l_number .nil pass0 (pa_cons (pv 0) (pa_cons (pe_op op_add pe_int (pv 4)) pa_nil))))
      (pss_cons (ps_set (i := 6) sc_law.nd rfl (Or.inl rfl) (pe_slice sl_lstJ (pe_call (ok_l_order T) (hr.mono (by decide)) rfl T.g_l_order T.k_l_order T.b_l_order .nil pass0 (pa_cons (pv 1) (pa_cons (pv 5) pa_nil))) po_none (po_some (pe_op op_add pe_int (pe_op op_mod (pe_op op_fdiv (pv 5) pe_int) (pv 1))))))
      (pss_cons (ps_set (i := 7) sc_law.nd rfl (Or.inl rfl) (pe_callTy call_listJ (by rfl) T.list (by decide +kernel) (pa_cons (pv 6) pa_nil)))
      (pss_cons (ps_set (i := 8) sc_law.nd rfl (Or.inl rfl) (pe_call (ok_part T) (hr.mono (by decide)) rfl T.g_part T.k_part T.b_part .nil passL (pa_cons (pv 2) (pa_cons (pv 7) pa_nil))))
      (pss_cons (ps_set (i := 9) sc_law.nd rfl (Or.inl rfl) (pe_call (ok_l_part T) (hr.mono (by decide)) rfl T.g_l_part T.k_l_part T.b_l_part .nil pass0 (pa_cons (pv 3) (pa_cons (pv 6) pa_nil))))
      (pss_cons (ps_if (PW.pt (pw_or (pt_not (pt_val (pe_call (ok_l_is T) (hr.mono (by decide)) rfl T.g_l_is T.k_l_is T.b_l_is .nil pass0 (pa_cons (pv 8) (pa_cons (pe_callB call_lenJ (by rfl) T.len (by decide +kernel) (pa_cons (pv 6) pa_nil)) (pa_cons (pv 9) pa_nil)))))) (pw_or (pt_cmpR (op_neI hr.units) (pv 7) (pv 6) (nomark _)) (pw_or1 (pt_not (pt_val (pe_call (ok_l_is T) (hr.mono (by decide)) rfl T.g_l_is T.k_l_is T.b_l_is .nil pass0 (pa_cons (pv 2) (pa_cons (pv 1) (pa_cons (pv 3) pa_nil))))))))))
        (pss_one (ps_ret pe_bl))
        pss_nil)
      (pss_cons (ps_expr (pe_bmL0 PySem.F.slot_list_clear PySem.F.type_list_clear mt_clear (pv 7)))
      (pss_cons (ps_set (i := 10) sc_law.nd rfl (Or.inl rfl) (pe_slice sl_lstJ (pe_call (ok_l_order T) (hr.mono (by decide)) rfl T.g_l_order T.k_l_order T.b_l_order .nil pass0 (pa_cons (pe_callB call_lenJ (by rfl) T.len (by decide +kernel) (pa_cons (pv 6) pa_nil)) (pa_cons (pe_op op_fdiv (pv 5) pe_int) pa_nil))) po_none (po_some (pe_op op_add pe_int (pe_op op_mod (pe_op op_fdiv (pv 5) pe_int) (pe_callB call_lenJ (by rfl) T.len (by decide +kernel) (pa_cons (pv 6) pa_nil)))))))
      (pss_cons (ps_if (pt_not (pt_val (pe_call (ok_l_is T) (hr.mono (by decide)) rfl T.g_l_is T.k_l_is T.b_l_is .nil pass0 (pa_cons (pe_call (ok_part T) (hr.mono (by decide)) rfl T.g_part T.k_part T.b_part .nil passL (pa_cons (pv 8) (pa_cons (pe_callTy call_listJ (by rfl) T.list (by decide +kernel) (pa_cons (pv 10) pa_nil)) pa_nil))) (pa_cons (pe_callB call_lenJ (by rfl) T.len (by decide +kernel) (pa_cons (pv 10) pa_nil)) (pa_cons (pe_call (ok_l_part T) (hr.mono (by decide)) rfl T.g_l_part T.k_l_part T.b_l_part .nil pass0 (pa_cons (pv 9) (pa_cons (pv 10) pa_nil))) pa_nil))))))
        (pss_one (ps_ret pe_bl))
        pss_nil)
      (pss_cons (ps_if (pt_not (pt_val (pe_call (ok_l_refused T) (hr.mono (by decide)) rfl T.g_l_refused T.k_l_refused T.b_l_refused .nil pass0 (pa_cons (pv 2) (pa_cons (pe_call (ok_l_spoilt T) (hr.mono (by decide)) rfl T.g_l_spoilt T.k_l_spoilt T.b_l_spoilt .nil pass0 (pa_cons (pv 6) (pa_cons (pe_call (ok_l_number T) (hr.mono (by decide)) rfl T.g_l_number T.k_l_number T.b_l_number .nil pass0 (pa_cons (pv 0) (pa_cons (pe_op op_add pe_int (pv 4)) pa_nil))) (pa_cons (pv 1) pa_nil)))) pa_nil)))))
        (pss_one (ps_ret pe_bl))
        pss_nil)
      (pss_cons (ps_if (pt_not (pt_val (pe_call (ok_l_is T) (hr.mono (by decide)) rfl T.g_l_is T.k_l_is T.b_l_is .nil pass0 (pa_cons (pe_call (ok_opposite T) (hr.mono (by decide)) rfl T.g_opposite T.k_opposite T.b_opposite .nil pass0 (pa_cons (pv 8) pa_nil)) (pa_cons (pe_callB call_lenJ (by rfl) T.len (by decide +kernel) (pa_cons (pv 6) pa_nil)) (pa_cons (pe_call (ok_l_others T) (hr.mono (by decide)) rfl T.g_l_others T.k_l_others T.b_l_others .nil pass0 (pa_cons (pv 9) (pa_cons (pe_callB call_lenJ (by rfl) T.len (by decide +kernel) (pa_cons (pv 6) pa_nil)) pa_nil))) pa_nil))))))
        (pss_one (ps_ret pe_bl))
        pss_nil)
      (pss_cons (ps_if (pt_cmpR op_lt (pe_callB call_lenJ (by rfl) T.len (by decide +kernel) (pa_cons (pv 6) pa_nil)) pe_int (nomark _))
        (pss_one (ps_expr (pe_meth0 (pv 8) T.cl_Web T.m_Web_grow (ok_Web_grow T) (hr.mono (by decide)) T.b_Web_grow .nil passL)))
        pss_nil)
      (pss_cons (ps_set (i := 11) sc_law.nd rfl (Or.inl rfl) (pe_call (ok_opposite T) (hr.mono (by decide)) rfl T.g_opposite T.k_opposite T.b_opposite .nil pass0 (pa_cons (pv 2) pa_nil)))
      (pss_cons (ps_if (PW.pt (pw_or (pt_not (pt_val (pe_call (ok_l_is T) (hr.mono (by decide)) rfl T.g_l_is T.k_l_is T.b_l_is .nil pass0 (pa_cons (pv 11) (pa_cons (pv 1) (pa_cons (pe_call (ok_l_others T) (hr.mono (by decide)) rfl T.g_l_others T.k_l_others T.b_l_others .nil pass0 (pa_cons (pv 3) (pa_cons (pv 1) pa_nil))) pa_nil)))))) (pw_or1 (pt_not (pt_val (pe_call (ok_l_is T) (hr.mono (by decide)) rfl T.g_l_is T.k_l_is T.b_l_is .nil pass0 (pa_cons (pe_call (ok_opposite T) (hr.mono (by decide)) rfl T.g_opposite T.k_opposite T.b_opposite .nil pass0 (pa_cons (pv 11) pa_nil)) (pa_cons (pv 1) (pa_cons (pv 3) pa_nil)))))))))
        (pss_one (ps_ret pe_bl))
        pss_nil)
      (pss_cons (ps_if (pt_cmpR (op_neP hr.units) (pv 9) (pe_lstJ pa_nil) (nomark _))
        (pss_one (ps_expr (pe_meth (pv 8) T.cl_Web T.m_Web_take (ok_Web_take T) (hr.mono (by decide)) T.b_Web_take .nil passL (pa_cons (pe_ix ix_tupJ (pe_ix ix_listJ (pv 9) pe_int (fun _ _ => rfl)) pe_int (fun _ _ => rfl)) (pa_cons (pe_ix ix_tupJ (pe_ix ix_listJ (pv 9) pe_int (fun _ _ => rfl)) pe_int (fun _ _ => rfl)) pa_nil)))))
        pss_nil)
      (pss_cons (ps_if (pt_not (pt_val (pe_call (ok_l_is T) (hr.mono (by decide)) rfl T.g_l_is T.k_l_is T.b_l_is .nil pass0 (pa_cons (pv 2) (pa_cons (pv 1) (pa_cons (pv 3) pa_nil))))))
        (pss_one (ps_ret pe_bl))
        pss_nil)
      (pss_one (ps_if (pt_cmpR (op_neP hr.units) (pv 3) (pe_lstJ pa_nil) (nomark _))
        (pss_cons (ps_set (i := 12) sc_law.nd rfl (Or.inl rfl) (pe_bmL PySem.F.slot_list_pop PySem.F.type_list_pop mt_popA (pv 3) (pa_cons (pe_op op_mod (pe_op op_fdiv (pv 5) pe_int) (pe_callB call_lenJ (by rfl) T.len (by decide +kernel) (pa_cons (pv 3) pa_nil))) pa_nil)))
          (pss_cons (ps_expr (pe_meth (pv 2) T.cl_Web T.m_Web_take (ok_Web_take T) (hr.mono (by decide)) T.b_Web_take .nil passL (pa_cons (pe_ix ix_tupJ (pv 12) pe_int (fun _ _ => rfl)) (pa_cons (pe_ix ix_tupJ (pv 12) pe_int (fun _ _ => rfl)) pa_nil))))
          (pss_one (ps_if (pt_not (pt_val (pe_call (ok_l_is T) (hr.mono (by decide)) rfl T.g_l_is T.k_l_is T.b_l_is .nil pass0 (pa_cons (pv 11) (pa_cons (pv 1) (pa_cons (pe_call (ok_l_others T) (hr.mono (by decide)) rfl T.g_l_others T.k_l_others T.b_l_others .nil pass0 (pa_cons (pe_op op_catJ (pv 3) (pe_lstJ (pa_cons (pv 12) pa_nil))) (pa_cons (pv 1) pa_nil))) pa_nil))))))
            (pss_one (ps_ret pe_bl))
            pss_nil))))
        pss_nil)))))))))))))))))))
  (pss_one (ps_ret (pe_call (ok_l_is T) (hr.mono (by decide)) rfl T.g_l_is T.k_l_is T.b_l_is .nil pass0 (pa_cons (pv 2) (pa_cons (pv 1) (pa_cons (pv 3) pa_nil))))))))), ?_⟩
    refine seq_by (fun σ1 H1 => ∃ n : Nat, (1 ≤ n ∧ n ≤ 30) ∧ σ1 = [some (.ref a), some (.int n), none, none, none, none, none, none, none, none, none, none, none] ∧ Ex H H1) (fun N hN => ?_) (fun s1 H1 m => ?_)
    · simp [L2.start, and_assoc, spNumber]
      refine ⟨ns, hS, ns, hS, fun d1 K1 m1 g1 l1 => ⟨ns, sql_up hS g1, _, l1, by omega, ?_⟩⟩
      obtain ⟨m, hm, r⟩ := many_ix (c := num ns 0) (d := num ns 0) (num ns 1) (mixed_nn _ _)
      exact ⟨_, hm, hN _ _ ⟨m, r, rfl, g1⟩⟩
    obtain ⟨n, hn, rfl, e1⟩ := m
    refine seq_by (fun σ1 H2 => ∃ (p l : Addr) (ds : List Addr) (tl : Addr), σ1 = [some (.ref a), some (.int n), some (.ref p), some (.ref tl), none, none, none, none, none, none, none, none, none] ∧ H l = none ∧ (∀ d ∈ ds, H d = none) ∧ H tl = none ∧ l ≠ tl ∧ WT A H H2 n p l ds tl) (fun N hN => ?_) (fun s1 H2 m => ?_)
    · simp [and_assoc, spLWeb]
      refine ⟨ns, n, rfl, sql_up hS e1, hn.1, hn.2, fun q' p l ds rows tl prs H2 e2 hq W G hL R f1 f2 f3 f4 f5 => ⟨_, hq, rfl, ?_⟩⟩
      simp
      exact hN _ _ ⟨p, l, ds, tl, rfl, fresh_back e1 f2, fun d hd => fresh_back e1 (f3 d hd), fresh_back e1 f4, f5, e1.trans e2, rows, prs, W, G, hL, R⟩
    obtain ⟨p, l, ds, tl, rfl, fl, fds, ftl, ltl, Z0⟩ := m
    refine ⟨3, rfl, by decide, by decide, for_range (n := 3) (fun i σ H' => ∃ (b4 b5 b6 b7 b8 b9 b10 b11 b12 : Option V), σ = [some (.ref a), some (.int n), some (.ref p), some (.ref tl), b4, b5, b6, b7, b8, b9, b10, b11, b12] ∧ WT A H H' n p l ds tl) ⟨none, none, none, none, none, none, none, none, none, rfl, Z0⟩ (fun i σ H' hi h => ?_) (fun σ H' h => ?_)⟩
    · obtain ⟨b4, b5, b6, b7, b8, b9, b10, b11, b12, rfl, ⟨e, rows, prs, W, G, hL, R⟩⟩ := h
      have hS1 := sql_up hS e
      have n30 : n ≤ 30 := hn.2
      rw [Int.zero_add]
      refine seq_by (fun σ1 H1 => ∃ c : Int, σ1 = [some (.ref a), some (.int n), some (.ref p), some (.ref tl), some (.int i), some (.int c), b6, b7, b8, b9, b10, b11, b12] ∧ 0 ≤ c ∧ H1 = H') (fun N hN => ?_) (fun s1 H1 m => ?_)
      · simp [and_assoc, spNumber]
        exact ⟨ns, hS1, by omega, by omega, hN _ _ ⟨_, rfl, mixed_nn _ _, rfl⟩⟩
      obtain ⟨c, rfl, c0, rfl⟩ := m
      refine seq_by (fun σ1 H2 => ∃ (ql : Addr) (qs : List Int), σ1 = [some (.ref a), some (.int n), some (.ref p), some (.ref tl), some (.int i), some (.int c), some (.ref ql), b7, b8, b9, b10, b11, b12] ∧ Ex H1 H2 ∧ LsI H2 ql qs ∧ Pts n qs) (fun N hN => ?_) (fun s1 H2 m => ?_)
      · simp [and_assoc, spOrder]
        refine ⟨n, rfl, by omega, fun ms q1 K1 hp m1 g1 l1 => ⟨by simp [CDiv], by omega, _, l1, ?_, fun q2 K2 m2 g2 l2 => hN _ _ ⟨q2, ms.take (1 + c / 7 % (n : Int)).toNat, rfl, g1.trans g2, ?_, pts_take hp hn.1 (Int.emod_nonneg _ (by omega))⟩⟩⟩
        · have := Int.emod_nonneg (c / 7) (show (n : Int) ≠ 0 by omega); omega
        · unfold LsI
          rw [l2, List.map_take]
      obtain ⟨ql, qs, rfl, e12, hq, P1⟩ := m
      have W2 := W.up e12
      have hL2 := hL.up e12
      have k30 : qs.length ≤ 30 := by have := P1.le; omega
      refine seq_by (fun σ1 H3 => ∃ hd : Addr, σ1 = [some (.ref a), some (.int n), some (.ref p), some (.ref tl), some (.int i), some (.int c), some (.ref ql), some (.ref hd), b8, b9, b10, b11, b12] ∧ Ex H2 H3 ∧ LsI H3 hd qs ∧ H2 hd = none) (fun N hN => ?_) (fun s1 H3 m => ?_)
      · simp [and_assoc, jList]
        exact ⟨_, .inl hq, fun q2 K2 m2 g2 l2 => hN _ _ ⟨q2, rfl, g2, l2, m2⟩⟩
      obtain ⟨hd, rfl, e23, hh, nhd⟩ := m
      have e13 := e12.trans e23
      have W3 := W.up e13
      have ev : (rows.length : Int) = n := R.n.symm
      have er : rows.length = n := by omega
      have Ps : ∀ z ∈ qs, 0 ≤ z ∧ z < (rows.length : Int) := fun z hz => by have := P1.rg z hz; omega
      refine seq_by (fun σ1 H4 => ∃ (pF lF : Addr) (dsF : List Addr) (rF : List (List Int)), σ1 = [some (.ref a), some (.int n), some (.ref p), some (.ref tl), some (.int i), some (.int c), some (.ref ql), some (.ref hd), some (.ref pF), b9, b10, b11, b12] ∧ Ex H3 H4 ∧ WebAt A.c_Web H4 pF lF dsF rF ∧ H3 lF = none ∧ (∀ d ∈ dsF, H3 d = none) ∧ Good rF ∧ Rel rF qs.length ((pairsL qs.length).filter (partF rows qs))) (fun N hN => ?_) (fun s1 H4 m => ?_)
      · simp
        exact spPart_ok W3 G P1 hh er n30 fun pF lF dsF rF H4 e4 W4 _ f2 f3 G4 R4 => hN _ _ ⟨pF, lF, dsF, rF, rfl, e4, W4, f2, f3, G4, R4⟩
      obtain ⟨pF, lF, dsF, rF, rfl, e34, WF, nlF, ndF, GF, RF⟩ := m
      have e14 := e13.trans e34
      have R1 : Rel rows n prs := R
      rw [part_eq G R1 P1.nd P1.rg] at RF
      generalize hdue : (pairsL qs.length).filter (lpF prs qs) = due at RF
      have q4 := hq.up (e23.trans e34)
      have h4 := hh.up e34
      refine seq_by (fun σ1 H5 => ∃ dl : Addr, σ1 = [some (.ref a), some (.int n), some (.ref p), some (.ref tl), some (.int i), some (.int c), some (.ref ql), some (.ref hd), some (.ref pF), some (.ref dl), b10, b11, b12] ∧ Ex H4 H5 ∧ LsP H5 dl due ∧ H4 dl = none) (fun N hN => ?_) (fun s1 H5 m => ?_)
      · simp
        refine ⟨tl, ql, qs, prs, rfl, hL.up e14, q4, k30, fun dl H5 n5 e5 h5 => hN _ _ ⟨dl, rfl, e5, ?_, n5⟩⟩
        rw [← hdue]; exact h5
      obtain ⟨dl, rfl, e45, hdl, ndl⟩ := m
      have e15 := e14.trans e45
      have q5 : H5 ql = some (.lst (qs.map V.int)) := q4.up e45
      have h5 : H5 hd = some (.lst (qs.map V.int)) := h4.up e45
      refine seq_by (fun σ1 H6 => σ1 = [some (.ref a), some (.int n), some (.ref p), some (.ref tl), some (.int i), some (.int c), some (.ref ql), some (.ref hd), some (.ref pF), some (.ref dl), b10, b11, b12] ∧ Ex H5 H6) (fun N hN => ?_) (fun s1 H6 m => ?_)
      · simp [q5]
        refine spIs_ok (WF.up e45) GF hdl RF fun K1 g1 => .inr ⟨rfl, ?_⟩
        refine ⟨qs, g1 _ _ h5, qs, g1 _ _ q5, ?_⟩
        refine .inl ⟨rfl, ?_⟩
        refine spIs_ok (W.up (e15.trans g1)) G (hL.up (e15.trans g1)) R fun K2 g2 => .inr ⟨rfl, ?_⟩
        exact hN _ _ ⟨rfl, g1.trans g2⟩
      obtain ⟨rfl, e56⟩ := m
      have nhd1 : H1 hd = none := fresh_back e12 nhd
      have h6 := e56 _ _ h5
      have bC : ∀ o, But [hd] H6 (upd H6 hd o) := fun o => But.upd (by simp)
      have ntH : ∀ m ∈ [hd], ∀ o, H6 m ≠ some (.tup o) := fun m hm o z => by
        rw [List.mem_singleton.mp hm, h6] at z; cases z
      have hdlF : hd ≠ lF := ne_of_none hh nlF
      have hddl : dl ≠ hd := (ne_of_none h4 ndl).symm
      have hdql : ql ≠ hd := ne_of_none hq nhd
      have WF6 := WF.up (e45.trans e56)
      refine seq_by (fun σ1 H7 => σ1 = [some (.ref a), some (.int n), some (.ref p), some (.ref tl), some (.int i), some (.int c), some (.ref ql), some (.ref hd), some (.ref pF), some (.ref dl), b10, b11, b12] ∧ Ex H1 H7 ∧ WebAt A.c_Web H7 pF lF dsF rF ∧ LsP H7 dl due ∧ LsI H7 ql qs) (fun N hN => ?_) (fun s1 H7 m => ?_)
      · simp [h6]
        refine hN _ _ ⟨rfl, ex_but (e15.trans e56) (bC _) (by simpa using nhd1), WF6.but (bC _) fun z hz => ?_, (hdl.up e56).but (bC _) (by simpa using hddl) ntH, ?_⟩
        · rw [List.mem_singleton.mp hz]
          refine ⟨fun y => ?_, hdlF, fun y => ?_⟩
          · obtain ⟨dx, w⟩ := WF6.ob
            rw [← y, h6] at w; cases w
          · obtain ⟨kv, w⟩ := WF6.dAt y
            rw [h6] at w; cases w
        · unfold LsI
          rw [upd_ne hdql]
          exact e56 _ _ q5
      obtain ⟨rfl, e17, WF7, hdl7, q7⟩ := m
      have q7' : H7 ql = some (.lst (qs.map V.int)) := q7
      have kpos := P1.pos
      refine seq_by (fun σ1 H8 => ∃ (il : Addr) (ms : List Int), σ1 = [some (.ref a), some (.int n), some (.ref p), some (.ref tl), some (.int i), some (.int c), some (.ref ql), some (.ref hd), some (.ref pF), some (.ref dl), some (.ref il), b11, b12] ∧ Ex H7 H8 ∧ LsI H8 il ms ∧ Pts qs.length ms) (fun N hN => ?_) (fun s1 H8 m => ?_)
      · simp [and_assoc, q7']
        refine ⟨by simp [CDiv], qs.length, _, rfl, by omega, fun ms q1 K1 hp m1 g1 l1 => ?_⟩
        have q8 := g1 _ _ q7'
        simp [and_assoc, q8]
        refine ⟨by simp [CDiv], by omega, _, l1, ?_, fun q2 K2 m2 g2 l2 => hN _ _ ⟨q2, ms.take (1 + c / 50 % (qs.length : Int)).toNat, rfl, g1.trans g2, ?_, pts_take hp kpos (Int.emod_nonneg _ (by omega))⟩⟩
        · have := Int.emod_nonneg (c / 50) (show (qs.length : Int) ≠ 0 by omega); omega
        · unfold LsI
          rw [l2, List.map_take]
      obtain ⟨il, ms, rfl, e78, hil, P2⟩ := m
      have e18 := e17.trans e78
      have WF8 := WF7.up e78
      have hdl8 := hdl7.up e78
      have q8 : LsI H8 ql qs := e78 _ _ q7'
      have lenF : rF.length = qs.length := by have := RF.n; omega
      have k2le : ms.length ≤ 30 := by have := P2.le; omega
      have nF1 : H1 lF = none := fresh_back e13 nlF
      have nD1 : ∀ d ∈ dsF, H1 d = none := fun d hd' => fresh_back e13 (ndF d hd')
      have dlF : lF ≠ dl := ne_of_none WF.ls ndl
      refine seq_by (fun σ1 H9 => σ1 = [some (.ref a), some (.int n), some (.ref p), some (.ref tl), some (.int i), some (.int c), some (.ref ql), some (.ref hd), some (.ref pF), some (.ref dl), some (.ref il), b11, b12] ∧ Ex H8 H9) (fun N hN => ?_) (fun s1 H9 m => ?_)
      · simp [jList]
        refine ⟨_, .inl hil, fun l9 K1 m1 g1 l1 => spPart_ok (WF8.up g1) GF P2 l1 lenF k30 fun p9 l9' ds9 r9 K2 g2 W9 _ _ _ G9 R9 => ?_⟩
        have hil2 : K2 il = some (.lst (ms.map V.int)) := (g1.trans g2) _ _ hil
        simp [hil2]
        refine ⟨dl, il, ms, due, rfl, hdl8.up (g1.trans g2), hil2, k2le, fun l10 K3 n3 g3 h3 => ?_⟩
        rw [part_eq GF RF P2.nd P2.rg] at R9
        exact spIs_ok (W9.up g3) G9 h3 R9 fun K4 g4 => .inr ⟨rfl, hN _ _ ⟨rfl, ((g1.trans g2).trans g3).trans g4⟩⟩
      obtain ⟨rfl, e89⟩ := m
      have e19 := e18.trans e89
      refine seq_by (fun σ1 H10 => σ1 = [some (.ref a), some (.int n), some (.ref p), some (.ref tl), some (.int i), some (.int c), some (.ref ql), some (.ref hd), some (.ref pF), some (.ref dl), some (.ref il), b11, b12] ∧ Ex H9 H10) (fun N hN => ?_) (fun s1 H10 m => ?_)
      · simp [and_assoc, spNumber]
        refine ⟨ns, sql_up hS1 e19, by omega, by omega, ql, qs, _, n, rfl, q8.up e89, P1.ne, k30, mixed_nn _ _, by omega, fun x K1 g1 hx => ?_⟩
        exact ⟨p, l, ds, rows, x, rfl, W.up (e19.trans g1), G, hx.1, by rw [ev]; exact hx.2, fun K2 g2 => .inr ⟨rfl, hN _ _ ⟨rfl, g1.trans g2⟩⟩⟩
      obtain ⟨rfl, e910⟩ := m
      have e810 := e89.trans e910
      have q10 : H10 ql = some (.lst (qs.map V.int)) := e810 _ _ q8
      refine seq_by (fun σ1 H11 => σ1 = [some (.ref a), some (.int n), some (.ref p), some (.ref tl), some (.int i), some (.int c), some (.ref ql), some (.ref hd), some (.ref pF), some (.ref dl), some (.ref il), b11, b12] ∧ Ex H10 H11) (fun N hN => ?_) (fun s1 H11 m => ?_)
      · simp
        refine ⟨pF, lF, dsF, rF, rfl, WF8.up e810, GF, fun p9 l9 ds9 r9 K1 g1 W9 _ _ _ G9 R9 => ?_⟩
        simp [g1 _ _ q10]
        refine ⟨dl, qs.length, due, rfl, hdl8.up (e810.trans g1), k30, fun l10 K2 n2 g2 h2 => ?_⟩
        rw [lenF, others_eq GF RF] at R9
        exact spIs_ok (W9.up g2) G9 h2 R9 fun K3 g3 => .inr ⟨rfl, hN _ _ ⟨rfl, (g1.trans g2).trans g3⟩⟩
      obtain ⟨rfl, e1011⟩ := m
      have e811 := e810.trans e1011
      have e111 := e18.trans e811
      have WF11 := WF8.up e811
      have hdl11 := hdl8.up e811
      have q11 : H11 ql = some (.lst (qs.map V.int)) := e811 _ _ q8
      refine seq_by (fun σ1 H12 => ∃ (ds2 : List Addr) (r2 : List (List Int)) (m2 : Int), σ1 = [some (.ref a), some (.int n), some (.ref p), some (.ref tl), some (.int i), some (.int c), some (.ref ql), some (.ref hd), some (.ref pF), some (.ref dl), some (.ref il), b11, b12] ∧ Ex H1 H12 ∧ WebAt A.c_Web H12 pF lF ds2 r2 ∧ Good r2 ∧ Rel r2 m2 due ∧ LsP H12 dl due ∧ ∀ d ∈ ds2, H1 d = none) (fun N hN => ?_) (fun s1 H12 m => ?_)
      · simp [q11]
        by_cases h30 : qs.length < 30
        · obtain ⟨dx, w⟩ := WF11.ob
          have ntl : ∀ m ∈ [lF], ∀ o, H11 m ≠ some (.tup o) := fun m hm o z => by
            rw [List.mem_singleton.mp hm, WF11.ls] at z; cases z
          refine .inr ⟨by omega, dx, _, w, wf_grow lF, pF, lF, dsF, rF, rfl, WF11, by omega, fun z => absurd z (by omega), fun _ d K hd' WK bK => hN _ _ ⟨dsF ++ [d], rF ++ [[]], _, rfl, ex_but e111 bK (by simpa using nF1), WK, good_grow GF (by omega), rel_grow RF, hdl11.but bK (by simpa using dlF.symm) ntl, fun d' h => ?_⟩⟩
          rcases List.mem_append.mp h with h | h
          · exact nD1 d' h
          · rw [List.mem_singleton.mp h]; exact fresh_back e111 hd'
        · exact .inl ⟨by omega, hN _ _ ⟨dsF, rF, _, rfl, e111, WF11, GF, RF, hdl11, nD1⟩⟩
      obtain ⟨ds2, r2, m2, rfl, e112, W12, G12, R12, hdl12, nD2⟩ := m
      have Wz := W.up e112
      refine seq_by (fun σ1 H13 => ∃ (pO lO : Addr) (dsO : List Addr) (rO : List (List Int)), σ1 = [some (.ref a), some (.int n), some (.ref p), some (.ref tl), some (.int i), some (.int c), some (.ref ql), some (.ref hd), some (.ref pF), some (.ref dl), some (.ref il), some (.ref pO), b12] ∧ Ex H12 H13 ∧ WebAt A.c_Web H13 pO lO dsO rO ∧ H12 lO = none ∧ (∀ d ∈ dsO, H12 d = none) ∧ Good rO ∧ Rel rO n ((pairsL n).filter (oppF rows))) (fun N hN => ?_) (fun s1 H13 m => ?_)
      · simp
        refine ⟨p, l, ds, rows, rfl, Wz, G, fun p9 l9 ds9 r9 K1 g1 W9 _ f2 f3 G9 R9 => ?_⟩
        rw [er] at R9
        exact hN _ _ ⟨p9, l9, ds9, r9, rfl, g1, W9, f2, f3, G9, R9⟩
      obtain ⟨pO, lO, dsO, rO, rfl, e1213, WO, nlO, ndO, GO, RO⟩ := m
      have e113 := e112.trans e1213
      refine seq_by (fun σ1 H14 => σ1 = [some (.ref a), some (.int n), some (.ref p), some (.ref tl), some (.int i), some (.int c), some (.ref ql), some (.ref hd), some (.ref pF), some (.ref dl), some (.ref il), some (.ref pO), b12] ∧ Ex H13 H14) (fun N hN => ?_) (fun s1 H14 m => ?_)
      · simp
        refine ⟨tl, n, prs, rfl, hL.up e113, n30, fun l9 K1 n1 g1 h1' => ?_⟩
        refine spIs_ok (WO.up g1) GO h1' (by rw [← others_eq G R1]; exact RO) fun K2 g2 => .inr ⟨rfl, ?_⟩
        refine ⟨pO, lO, dsO, rO, rfl, WO.up (g1.trans g2), GO, fun p9 l9' ds9 r9 K3 g3 W9 _ _ _ G9 R9 => ?_⟩
        have lenO : rO.length = n := by have := RO.n; omega
        rw [lenO] at R9
        have hLz := hL.up (((e113.trans g1).trans g2).trans g3)
        refine spIs_ok W9 G9 hLz (opp_opp G R1 GO RO R9) fun K4 g4 => .inr ⟨rfl, hN _ _ ⟨rfl, ((g1.trans g2).trans g3).trans g4⟩⟩
      obtain ⟨rfl, e1314⟩ := m
      have e114 := e113.trans e1314
      have e1214 := e1213.trans e1314
      have W14 := W12.up e1214
      have hdl14 := hdl12.up e1214
      have WO14 := WO.up e1314
      refine seq_by (fun σ1 H15 => σ1 = [some (.ref a), some (.int n), some (.ref p), some (.ref tl), some (.int i), some (.int c), some (.ref ql), some (.ref hd), some (.ref pF), some (.ref dl), some (.ref il), some (.ref pO), b12] ∧ Ex H1 H15 ∧ WebAt A.c_Web H15 pO lO dsO rO) (fun N hN => ?_) (fun s1 H15 m => ?_)
      · simp
        intro l9 K1 n1 g1 h1'
        have e0 : LsP K1 l9 [] := ⟨[], h1', TupsAt.nil _⟩
        refine ⟨due, hdl14.up g1, [], e0, ?_⟩
        by_cases hd0 : due = []
        · exact .inl ⟨hd0, hN _ _ ⟨rfl, e114.trans g1, WO14.up g1⟩⟩
        · refine .inr ⟨hd0, ?_⟩
          obtain ⟨dx, w⟩ := (W14.up g1).ob
          obtain ⟨ts, t1, t2⟩ := hdl14.up g1
          cases hdue' : due with
          | nil => exact absurd hdue' hd0
          | cons pr rest =>
            rw [hdue'] at t2
            cases ts with
            | nil => have := t2.1; simp at this
            | cons t ts =>
              have htup := (TupsAt.cons.mp t2).1
              obtain ⟨x, y, rfl, hxy, ht⟩ := (R12.ti pr).mp (by rw [hdue']; simp)
              have hlt := G12.lt ht
              have htt : tied r2 x y = true := (tied_iff r2 x y).mpr ht
              have ok2 : okTwo r2 (.int x) (.int y) = true := by
                unfold okTwo
                rw [okPt_of (by omega) (by simp; omega), okPt_of (by omega) (by simp; omega)]
                simp; omega
              refine ⟨dx, _, w, wf_take lF, ?_⟩
              simp [t1, htup]
              have c1' : ∀ {α : Prop}, okTwo r2 (.int x) (.int y) = false → α := fun z => by rw [ok2] at z; cases z
              have c2' : ∀ {α : Prop}, tied r2 (iOf (.int x)) (iOf (.int y)) = false → α := fun z => by
                have z : tied r2 x y = false := z
                rw [htt] at z
                cases z
              refine ⟨pF, lF, ds2, r2, _, _, rfl, W14.up g1, .int _, .int _, G12.sy, fun z => c1' z, fun _ z => c2' z, fun _ _ K2 WK bK => hN _ _ ⟨rfl, ex_but (e114.trans g1) bK nD2, (WO14.up g1).but bK fun d hd' => ?_⟩⟩
              obtain ⟨kv, hk⟩ := (W14.up g1).dAt hd'
              obtain ⟨kv2, hk2⟩ := W12.dAt hd'
              refine ⟨fun z => ?_, fun z => ?_, fun z => ?_⟩
              · obtain ⟨dx', w'⟩ := (WO14.up g1).ob
                rw [← z, hk] at w'; cases w'
              · have w' := (WO14.up g1).ls
                rw [← z, hk] at w'; cases w'
              · have := ndO d z
                rw [hk2] at this; cases this
      obtain ⟨rfl, e115, WO15⟩ := m
      refine seq_by (fun σ1 H16 => σ1 = [some (.ref a), some (.int n), some (.ref p), some (.ref tl), some (.int i), some (.int c), some (.ref ql), some (.ref hd), some (.ref pF), some (.ref dl), some (.ref il), some (.ref pO), b12] ∧ Ex H15 H16) (fun N hN => ?_) (fun s1 H16 m => ?_)
      · simp
        exact spIs_ok (W.up e115) G (hL.up e115) R fun K1 g1 => .inr ⟨rfl, hN _ _ ⟨rfl, g1⟩⟩
      obtain ⟨rfl, e1516⟩ := m
      have e116 := e115.trans e1516
      simp
      intro l9 H17 n17 e1617 h17
      have e0 : LsP H17 l9 [] := ⟨[], h17, TupsAt.nil _⟩
      have e117 := e116.trans e1617
      refine ⟨prs, hL.up e117, [], e0, ?_⟩
      have hL17 := hL.up e117
      have W17 := W.up e117
      have WO17 := (WO15.up e1516).up e1617
      by_cases hp0 : prs = []
      · exact .inl ⟨hp0, e.trans e117, rows, prs, W17, G, hL17, R⟩
      · refine .inr ⟨hp0, ?_⟩
        obtain ⟨ts, t1, t2⟩ := id hL17
        have plen : 0 < prs.length := by cases prs with | nil => exact absurd rfl hp0 | cons _ _ => simp
        have tlen := t2.1
        have few := R.few G
        have i0 := Int.emod_nonneg (c / 9) (show (ts.length : Int) ≠ 0 by omega)
        have i1 := Int.emod_lt_of_pos (c / 9) (show (0 : Int) < ts.length by omega)
        obtain ⟨k, hk⟩ : ∃ k : Nat, c / 9 % (ts.length : Int) = k := ⟨_, (Int.toNat_of_nonneg i0).symm⟩
        have klt : k < ts.length := by omega
        have ht : ts[k]? = some ts[k] := List.getElem?_eq_getElem klt
        have hp : prs[k]? = some prs[k] := List.getElem?_eq_getElem (by omega)
        have htup := t2.2 k _ _ ht hp
        obtain ⟨x, y, exy, hxy, htt⟩ := (R.ti prs[k]).mp (List.mem_of_getElem? hp)
        rw [exy] at htup hp
        obtain ⟨r1, r2', r3, r4, r5, r6⟩ := erase_rel G R hp
        have htv : (ts.map V.ref)[k]? = some (.ref ts[k]) := by rw [List.getElem?_map, ht]; rfl
        have bT : ∀ o, But [tl] H17 (upd H17 tl o) := fun o => But.upd (by simp)
        have ltup : ts[k] ≠ tl := ne_of htup t1 (by simp)
        have hupT : ∀ o, (upd H17 tl o) ts[k] = some (.tup [.int x, .int y]) := fun o => by rw [upd_ne ltup]; exact htup
        have WT17 : ∀ o, WebAt A.c_Web (upd H17 tl o) p l ds rows := fun o => W17.but (bT o) fun z hz => by
          rw [List.mem_singleton.mp hz]
          refine ⟨fun q' => ?_, fun q' => ltl q'.symm, fun q' => ?_⟩
          · obtain ⟨dx', w⟩ := W17.ob
            rw [← q', t1] at w; cases w
          · obtain ⟨kv, w⟩ := W17.dAt q'
            rw [t1] at w; cases w
        have nO : lO ≠ tl := (ne_of_none ((hL.up e112).choose_spec.1) nlO).symm
        have WOT : ∀ o, WebAt A.c_Web (upd H17 tl o) pO lO dsO rO := fun o => WO17.but (bT o) fun z hz => by
          rw [List.mem_singleton.mp hz]
          refine ⟨fun q' => ?_, fun q' => nO q'.symm, fun q' => ?_⟩
          · obtain ⟨dx', w⟩ := WO17.ob
            rw [← q', t1] at w; cases w
          · obtain ⟨kv, w⟩ := WO17.dAt q'
            rw [t1] at w; cases w
        have ok2 : okTwo rows (.int y) (.int x) = true := by
          unfold okTwo
          rw [okPt_of (by omega) (by simp; omega), okPt_of (by omega) (by simp; omega)]
          simp; omega
        refine ⟨⟨_, t1⟩, by simp [CDiv], _, t1, by simp; omega, _, t1, by simp; omega, .ref ts[k], ?_, by simp; omega, ?_⟩
        · rw [List.length_map, hk]; exact htv
        rw [List.length_map, hk, Int.toNat_natCast]
        obtain ⟨dxt, wt⟩ := (WT17 (.lst ((ts.map V.ref).eraseIdx k))).ob
        refine ⟨_, _, wt, wf_take l, ?_⟩
        simp [hupT]
        have c1' : ∀ {α : Prop}, okTwo rows (.int y) (.int x) = false → α := fun z => by rw [ok2] at z; cases z
        have c2' : ∀ {α : Prop}, tied rows (iOf (.int y)) (iOf (.int x)) = false → α := fun z => by
          have z : tied rows y x = false := z
          rw [r1] at z
          cases z
        refine ⟨p, l, ds, rows, _, _, rfl, WT17 _, .int _, .int _, G.sy, fun z => c1' z, fun _ z => c2' z, fun _ _ H18 W18 b18 => ?_⟩
        have W18 : WebAt A.c_Web H18 p l ds (takeR rows y x) := by simpa [iOf] using W18
        have e018 : Ex H H18 := ex_but (ex_but (e.trans e117) (bT _) (by simpa using ftl)) b18 fds
        have tt : TupsAt H18 (ts.eraseIdx k) (prs.eraseIdx k) := by
          refine ⟨by rw [List.length_eraseIdx, List.length_eraseIdx, tlen], fun m t' p' a' b' => ?_⟩
          rw [List.getElem?_eraseIdx] at a' b'
          have kp : ∀ t' o, H17 t' = some (.tup o) → H18 t' = some (.tup o) := fun t' o h => (WT17 _).kp b18 (by rw [upd_ne (ne_of h t1 (by simp))]; exact h) (by simp)
          split at a'
          · rename_i hm
            rw [if_pos hm] at b'
            exact kp _ _ (t2.2 m t' p' a' b')
          · rename_i hm
            rw [if_neg hm] at b'
            exact kp _ _ (t2.2 (m + 1) t' p' a' b')
        have tl18 : H18 tl = some (.lst ((ts.eraseIdx k).map V.ref)) := (WT17 _).kp b18 (by rw [upd_same, erase_map]) (by simp)
        have t18 : H18 ts[k] = some (.tup [.int x, .int y]) := (WT17 _).kp b18 (hupT _) (by simp)
        have WO18 : WebAt A.c_Web H18 pO lO dsO rO := (WOT _).but b18 fun d hd' => by
          obtain ⟨kv, hk'⟩ := (WT17 (.lst ((ts.map V.ref).eraseIdx k))).dAt hd'
          obtain ⟨kv2, hk2⟩ := Wz.dAt hd'
          refine ⟨fun z => ?_, fun z => ?_, fun z => ?_⟩
          · obtain ⟨dx', w'⟩ := (WOT (.lst ((ts.map V.ref).eraseIdx k))).ob
            rw [← z, hk'] at w'; cases w'
          · have w' := (WOT (.lst ((ts.map V.ref).eraseIdx k))).ls
            rw [← z, hk'] at w'; cases w'
          · have := ndO d z
            rw [hk2] at this; cases this
        intro l10 H19 n19 e19' h19
        simp [e19' _ _ tl18, h19]
        refine ⟨by rw [List.length_eraseIdx]; split <;> omega, fun l11 H20 n20 e20 h20 => ?_⟩
        have e1820 := e19'.trans e20
        have lp : LsP H20 l11 (prs.eraseIdx k ++ [((x : Int), (y : Int))]) := ⟨ts.eraseIdx k ++ [ts[k]], by rw [h20, List.map_append]; rfl, (tt.up e1820).snoc (e1820 _ _ t18)⟩
        obtain ⟨en1, en2⟩ := erase_in R.nd hp
        have RO2 : Rel rO n ((pairsL n).filter (othF (prs.eraseIdx k ++ [((x : Int), (y : Int))]))) := by
          rw [others_congr (bs := prs) (fun p' => by
            rw [List.mem_append, en2, List.mem_singleton]
            constructor
            · rintro (⟨h, _⟩ | rfl)
              · exact h
              · exact List.mem_of_getElem? hp
            · intro h
              by_cases q' : p' = ((x : Int), (y : Int))
              · exact .inr q'
              · exact .inl ⟨h, q'⟩), ← others_eq G R1]
          exact RO
        refine ⟨l11, n, _, rfl, lp, n30, fun l12 H21 n21 e21 h21 => spIs_ok (WO18.up (e1820.trans e21)) GO h21 RO2 fun H22 e22 => .inr ⟨rfl, ?_⟩⟩
        have e1822 := (e1820.trans e21).trans e22
        exact ⟨e018.trans e1822, takeR rows y x, prs.eraseIdx k, W18.up e1822, r5, ⟨ts.eraseIdx k, e1822 _ _ tl18, tt.up e1822⟩, r6⟩
    · obtain ⟨b4, b5, b6, b7, b8, b9, b10, b11, b12, rfl, ⟨e, rows, prs, W, G, hL, R⟩⟩ := h
      simp [spIs, and_assoc]
      exact ⟨l, ds, rows, W, G, prs, hL, R, fun H' _ => q H'⟩
end
end Jk

namespace Jk
open PySem L2 Evl
theorem all_mk {l : PySem.W.OpenLaw} {w : World} {K : PySem.W.Frag} {h : Heap} {mg : Str → Option Value} {fa c_BadPoint c_BadSize c_BadText c_BadTree c_JoinError c_NoTie c_NoTree c_TooMany c_Twice c_Web a_wall a_whole_within a_unlike_points a_pairs a_Web_init a_Web_many a_Web_has a_Web_put a_Web_take a_Web_grow a_Web_ties a_Web_need_point a_part a_opposite a_l_mixed a_l_number a_l_kind a_l_order a_l_web a_l_part a_l_others a_l_is a_l_spoilt a_l_refused a_law : Addr} (X : K.In h) (G : h.Ns mainGlobals mg) (hfa : mg "law" = some (.ref fa))
    {oc_wall kV_wall dc_wall pm_wall cd_wall ct_wall oc_whole_within kV_whole_within dc_whole_within pm_whole_within cd_whole_within ct_whole_within oc_unlike_points kV_unlike_points dc_unlike_points pm_unlike_points cd_unlike_points ct_unlike_points oc_pairs kV_pairs dc_pairs pm_pairs cd_pairs ct_pairs oc_Web_init kV_Web_init dc_Web_init pm_Web_init cd_Web_init ct_Web_init oc_Web_many kV_Web_many dc_Web_many pm_Web_many cd_Web_many ct_Web_many oc_Web_has kV_Web_has dc_Web_has pm_Web_has cd_Web_has ct_Web_has oc_Web_put kV_Web_put dc_Web_put pm_Web_put cd_Web_put ct_Web_put oc_Web_take kV_Web_take dc_Web_take pm_Web_take cd_Web_take ct_Web_take oc_Web_grow kV_Web_grow dc_Web_grow pm_Web_grow cd_Web_grow ct_Web_grow oc_Web_ties kV_Web_ties dc_Web_ties pm_Web_ties cd_Web_ties ct_Web_ties oc_Web_need_point kV_Web_need_point dc_Web_need_point pm_Web_need_point cd_Web_need_point ct_Web_need_point oc_part kV_part dc_part pm_part cd_part ct_part oc_opposite kV_opposite dc_opposite pm_opposite cd_opposite ct_opposite oc_l_mixed kV_l_mixed dc_l_mixed pm_l_mixed cd_l_mixed ct_l_mixed oc_l_number kV_l_number dc_l_number pm_l_number cd_l_number ct_l_number oc_l_kind kV_l_kind dc_l_kind pm_l_kind cd_l_kind ct_l_kind oc_l_order kV_l_order dc_l_order pm_l_order cd_l_order ct_l_order oc_l_web kV_l_web dc_l_web pm_l_web cd_l_web ct_l_web oc_l_part kV_l_part dc_l_part pm_l_part cd_l_part ct_l_part oc_l_others kV_l_others dc_l_others pm_l_others cd_l_others ct_l_others oc_l_is kV_l_is dc_l_is pm_l_is cd_l_is ct_l_is oc_l_spoilt kV_l_spoilt dc_l_spoilt pm_l_spoilt cd_l_spoilt ct_l_spoilt oc_l_refused kV_l_refused dc_l_refused pm_l_refused cd_l_refused ct_l_refused oc_law kV_law dc_law pm_law cd_law ct_law : Value} {od_wall od_whole_within od_unlike_points od_pairs od_Web_init od_Web_many od_Web_has od_Web_put od_Web_take od_Web_grow od_Web_ties od_Web_need_point od_part od_opposite od_l_mixed od_l_number od_l_kind od_l_order od_l_web od_l_part od_l_others od_l_is od_l_spoilt od_l_refused od_law an_wall an_whole_within an_unlike_points an_pairs an_Web_init an_Web_many an_Web_has an_Web_put an_Web_take an_Web_grow an_Web_ties an_Web_need_point an_part an_opposite an_l_mixed an_l_number an_l_kind an_l_order an_l_web an_l_part an_l_others an_l_is an_l_spoilt an_l_refused an_law : Option Addr} {sl_wall sl_whole_within sl_unlike_points sl_pairs sl_Web_init sl_Web_many sl_Web_has sl_Web_put sl_Web_take sl_Web_grow sl_Web_ties sl_Web_need_point sl_part sl_opposite sl_l_mixed sl_l_number sl_l_kind sl_l_order sl_l_web sl_l_part sl_l_others sl_l_is sl_l_spoilt sl_l_refused sl_law : Array (Option Value)} {tk_MOST_POINTS : Tok}
    (h_c_BadPoint : PySem.W.nsIn K mainGlobals "BadPoint" = some (some (.ref c_BadPoint)))
    (h_c_BadSize : PySem.W.nsIn K mainGlobals "BadSize" = some (some (.ref c_BadSize)))
    (h_c_BadText : PySem.W.nsIn K mainGlobals "BadText" = some (some (.ref c_BadText)))
    (h_c_BadTree : PySem.W.nsIn K mainGlobals "BadTree" = some (some (.ref c_BadTree)))
    (h_c_JoinError : PySem.W.nsIn K mainGlobals "JoinError" = some (some (.ref c_JoinError)))
    (h_c_NoTie : PySem.W.nsIn K mainGlobals "NoTie" = some (some (.ref c_NoTie)))
    (h_c_NoTree : PySem.W.nsIn K mainGlobals "NoTree" = some (some (.ref c_NoTree)))
    (h_c_TooMany : PySem.W.nsIn K mainGlobals "TooMany" = some (some (.ref c_TooMany)))
    (h_c_Twice : PySem.W.nsIn K mainGlobals "Twice" = some (some (.ref c_Twice)))
    (h_c_Web : PySem.W.nsIn K mainGlobals "Web" = some (some (.ref c_Web)))
    (f_wall : PySem.W.nsIn K mainGlobals "_wall" = some (some (.ref a_wall)))
    (l_wall : K.lookup a_wall = some ⟨oc_wall, od_wall, .func (PySem.W.fnOf "_wall" "_wall" (defArgs s_wall) (defBody s_wall) (defScope s_wall) .none kV_wall dc_wall pm_wall an_wall cd_wall ct_wall), sl_wall⟩)
    (c_wall : PySem.W.codeIn K cd_wall "_wall" = true)
    (k_wall : PySem.W.keepIn K (.ref a_wall) = true)
    (f_whole_within : PySem.W.nsIn K mainGlobals "whole_within" = some (some (.ref a_whole_within)))
    (l_whole_within : K.lookup a_whole_within = some ⟨oc_whole_within, od_whole_within, .func (PySem.W.fnOf "whole_within" "whole_within" (defArgs s_whole_within) (defBody s_whole_within) (defScope s_whole_within) .none kV_whole_within dc_whole_within pm_whole_within an_whole_within cd_whole_within ct_whole_within), sl_whole_within⟩)
    (c_whole_within : PySem.W.codeIn K cd_whole_within "whole_within" = true)
    (k_whole_within : PySem.W.keepIn K (.ref a_whole_within) = true)
    (f_unlike_points : PySem.W.nsIn K mainGlobals "unlike_points" = some (some (.ref a_unlike_points)))
    (l_unlike_points : K.lookup a_unlike_points = some ⟨oc_unlike_points, od_unlike_points, .func (PySem.W.fnOf "unlike_points" "unlike_points" (defArgs s_unlike_points) (defBody s_unlike_points) (defScope s_unlike_points) .none kV_unlike_points dc_unlike_points pm_unlike_points an_unlike_points cd_unlike_points ct_unlike_points), sl_unlike_points⟩)
    (c_unlike_points : PySem.W.codeIn K cd_unlike_points "unlike_points" = true)
    (k_unlike_points : PySem.W.keepIn K (.ref a_unlike_points) = true)
    (f_pairs : PySem.W.nsIn K mainGlobals "pairs" = some (some (.ref a_pairs)))
    (l_pairs : K.lookup a_pairs = some ⟨oc_pairs, od_pairs, .func (PySem.W.fnOf "pairs" "pairs" (defArgs s_pairs) (defBody s_pairs) (defScope s_pairs) .none kV_pairs dc_pairs pm_pairs an_pairs cd_pairs ct_pairs), sl_pairs⟩)
    (c_pairs : PySem.W.codeIn K cd_pairs "pairs" = true)
    (k_pairs : PySem.W.keepIn K (.ref a_pairs) = true)
    (f_Web_init : PySem.W.findIn K (.ref c_Web) "__init__" = some (some (.ref a_Web_init)))
    (i_Web_init : PySem.W.isFn K (.ref a_Web_init) = true)
    (l_Web_init : K.lookup a_Web_init = some ⟨oc_Web_init, od_Web_init, .func (PySem.W.fnOf "__init__" "Web.__init__" (defArgs s_Web_init) (defBody s_Web_init) (defScope s_Web_init) .none kV_Web_init dc_Web_init pm_Web_init an_Web_init cd_Web_init ct_Web_init), sl_Web_init⟩)
    (c_Web_init : PySem.W.codeIn K cd_Web_init "Web.__init__" = true)
    (k_Web_init : PySem.W.keepIn K (.ref a_Web_init) = true)
    (f_Web_many : PySem.W.findIn K (.ref c_Web) "many" = some (some (.ref a_Web_many)))
    (i_Web_many : PySem.W.isFn K (.ref a_Web_many) = true)
    (l_Web_many : K.lookup a_Web_many = some ⟨oc_Web_many, od_Web_many, .func (PySem.W.fnOf "many" "Web.many" (defArgs s_Web_many) (defBody s_Web_many) (defScope s_Web_many) .none kV_Web_many dc_Web_many pm_Web_many an_Web_many cd_Web_many ct_Web_many), sl_Web_many⟩)
    (c_Web_many : PySem.W.codeIn K cd_Web_many "Web.many" = true)
    (k_Web_many : PySem.W.keepIn K (.ref a_Web_many) = true)
    (f_Web_has : PySem.W.findIn K (.ref c_Web) "has" = some (some (.ref a_Web_has)))
    (i_Web_has : PySem.W.isFn K (.ref a_Web_has) = true)
    (l_Web_has : K.lookup a_Web_has = some ⟨oc_Web_has, od_Web_has, .func (PySem.W.fnOf "has" "Web.has" (defArgs s_Web_has) (defBody s_Web_has) (defScope s_Web_has) .none kV_Web_has dc_Web_has pm_Web_has an_Web_has cd_Web_has ct_Web_has), sl_Web_has⟩)
    (c_Web_has : PySem.W.codeIn K cd_Web_has "Web.has" = true)
    (k_Web_has : PySem.W.keepIn K (.ref a_Web_has) = true)
    (f_Web_put : PySem.W.findIn K (.ref c_Web) "put" = some (some (.ref a_Web_put)))
    (i_Web_put : PySem.W.isFn K (.ref a_Web_put) = true)
    (l_Web_put : K.lookup a_Web_put = some ⟨oc_Web_put, od_Web_put, .func (PySem.W.fnOf "put" "Web.put" (defArgs s_Web_put) (defBody s_Web_put) (defScope s_Web_put) .none kV_Web_put dc_Web_put pm_Web_put an_Web_put cd_Web_put ct_Web_put), sl_Web_put⟩)
    (c_Web_put : PySem.W.codeIn K cd_Web_put "Web.put" = true)
    (k_Web_put : PySem.W.keepIn K (.ref a_Web_put) = true)
    (f_Web_take : PySem.W.findIn K (.ref c_Web) "take" = some (some (.ref a_Web_take)))
    (i_Web_take : PySem.W.isFn K (.ref a_Web_take) = true)
    (l_Web_take : K.lookup a_Web_take = some ⟨oc_Web_take, od_Web_take, .func (PySem.W.fnOf "take" "Web.take" (defArgs s_Web_take) (defBody s_Web_take) (defScope s_Web_take) .none kV_Web_take dc_Web_take pm_Web_take an_Web_take cd_Web_take ct_Web_take), sl_Web_take⟩)
    (c_Web_take : PySem.W.codeIn K cd_Web_take "Web.take" = true)
    (k_Web_take : PySem.W.keepIn K (.ref a_Web_take) = true)
    (f_Web_grow : PySem.W.findIn K (.ref c_Web) "grow" = some (some (.ref a_Web_grow)))
    (i_Web_grow : PySem.W.isFn K (.ref a_Web_grow) = true)
    (l_Web_grow : K.lookup a_Web_grow = some ⟨oc_Web_grow, od_Web_grow, .func (PySem.W.fnOf "grow" "Web.grow" (defArgs s_Web_grow) (defBody s_Web_grow) (defScope s_Web_grow) .none kV_Web_grow dc_Web_grow pm_Web_grow an_Web_grow cd_Web_grow ct_Web_grow), sl_Web_grow⟩)
    (c_Web_grow : PySem.W.codeIn K cd_Web_grow "Web.grow" = true)
    (k_Web_grow : PySem.W.keepIn K (.ref a_Web_grow) = true)
    (f_Web_ties : PySem.W.findIn K (.ref c_Web) "ties" = some (some (.ref a_Web_ties)))
    (i_Web_ties : PySem.W.isFn K (.ref a_Web_ties) = true)
    (l_Web_ties : K.lookup a_Web_ties = some ⟨oc_Web_ties, od_Web_ties, .func (PySem.W.fnOf "ties" "Web.ties" (defArgs s_Web_ties) (defBody s_Web_ties) (defScope s_Web_ties) .none kV_Web_ties dc_Web_ties pm_Web_ties an_Web_ties cd_Web_ties ct_Web_ties), sl_Web_ties⟩)
    (c_Web_ties : PySem.W.codeIn K cd_Web_ties "Web.ties" = true)
    (k_Web_ties : PySem.W.keepIn K (.ref a_Web_ties) = true)
    (f_Web_need_point : PySem.W.findIn K (.ref c_Web) "_need_point" = some (some (.ref a_Web_need_point)))
    (i_Web_need_point : PySem.W.isFn K (.ref a_Web_need_point) = true)
    (l_Web_need_point : K.lookup a_Web_need_point = some ⟨oc_Web_need_point, od_Web_need_point, .func (PySem.W.fnOf "_need_point" "Web._need_point" (defArgs s_Web_need_point) (defBody s_Web_need_point) (defScope s_Web_need_point) .none kV_Web_need_point dc_Web_need_point pm_Web_need_point an_Web_need_point cd_Web_need_point ct_Web_need_point), sl_Web_need_point⟩)
    (c_Web_need_point : PySem.W.codeIn K cd_Web_need_point "Web._need_point" = true)
    (k_Web_need_point : PySem.W.keepIn K (.ref a_Web_need_point) = true)
    (f_part : PySem.W.nsIn K mainGlobals "part" = some (some (.ref a_part)))
    (l_part : K.lookup a_part = some ⟨oc_part, od_part, .func (PySem.W.fnOf "part" "part" (defArgs s_part) (defBody s_part) (defScope s_part) .none kV_part dc_part pm_part an_part cd_part ct_part), sl_part⟩)
    (c_part : PySem.W.codeIn K cd_part "part" = true)
    (k_part : PySem.W.keepIn K (.ref a_part) = true)
    (f_opposite : PySem.W.nsIn K mainGlobals "opposite" = some (some (.ref a_opposite)))
    (l_opposite : K.lookup a_opposite = some ⟨oc_opposite, od_opposite, .func (PySem.W.fnOf "opposite" "opposite" (defArgs s_opposite) (defBody s_opposite) (defScope s_opposite) .none kV_opposite dc_opposite pm_opposite an_opposite cd_opposite ct_opposite), sl_opposite⟩)
    (c_opposite : PySem.W.codeIn K cd_opposite "opposite" = true)
    (k_opposite : PySem.W.keepIn K (.ref a_opposite) = true)
    (f_l_mixed : PySem.W.nsIn K mainGlobals "_law_mixed" = some (some (.ref a_l_mixed)))
    (l_l_mixed : K.lookup a_l_mixed = some ⟨oc_l_mixed, od_l_mixed, .func (PySem.W.fnOf "_law_mixed" "_law_mixed" (defArgs s_l_mixed) (defBody s_l_mixed) (defScope s_l_mixed) .none kV_l_mixed dc_l_mixed pm_l_mixed an_l_mixed cd_l_mixed ct_l_mixed), sl_l_mixed⟩)
    (c_l_mixed : PySem.W.codeIn K cd_l_mixed "_law_mixed" = true)
    (k_l_mixed : PySem.W.keepIn K (.ref a_l_mixed) = true)
    (f_l_number : PySem.W.nsIn K mainGlobals "_law_number" = some (some (.ref a_l_number)))
    (l_l_number : K.lookup a_l_number = some ⟨oc_l_number, od_l_number, .func (PySem.W.fnOf "_law_number" "_law_number" (defArgs s_l_number) (defBody s_l_number) (defScope s_l_number) .none kV_l_number dc_l_number pm_l_number an_l_number cd_l_number ct_l_number), sl_l_number⟩)
    (c_l_number : PySem.W.codeIn K cd_l_number "_law_number" = true)
    (k_l_number : PySem.W.keepIn K (.ref a_l_number) = true)
    (f_l_kind : PySem.W.nsIn K mainGlobals "_law_kind" = some (some (.ref a_l_kind)))
    (l_l_kind : K.lookup a_l_kind = some ⟨oc_l_kind, od_l_kind, .func (PySem.W.fnOf "_law_kind" "_law_kind" (defArgs s_l_kind) (defBody s_l_kind) (defScope s_l_kind) .none kV_l_kind dc_l_kind pm_l_kind an_l_kind cd_l_kind ct_l_kind), sl_l_kind⟩)
    (c_l_kind : PySem.W.codeIn K cd_l_kind "_law_kind" = true)
    (k_l_kind : PySem.W.keepIn K (.ref a_l_kind) = true)
    (f_l_order : PySem.W.nsIn K mainGlobals "_law_order" = some (some (.ref a_l_order)))
    (l_l_order : K.lookup a_l_order = some ⟨oc_l_order, od_l_order, .func (PySem.W.fnOf "_law_order" "_law_order" (defArgs s_l_order) (defBody s_l_order) (defScope s_l_order) .none kV_l_order dc_l_order pm_l_order an_l_order cd_l_order ct_l_order), sl_l_order⟩)
    (c_l_order : PySem.W.codeIn K cd_l_order "_law_order" = true)
    (k_l_order : PySem.W.keepIn K (.ref a_l_order) = true)
    (f_l_web : PySem.W.nsIn K mainGlobals "_law_web" = some (some (.ref a_l_web)))
    (l_l_web : K.lookup a_l_web = some ⟨oc_l_web, od_l_web, .func (PySem.W.fnOf "_law_web" "_law_web" (defArgs s_l_web) (defBody s_l_web) (defScope s_l_web) .none kV_l_web dc_l_web pm_l_web an_l_web cd_l_web ct_l_web), sl_l_web⟩)
    (c_l_web : PySem.W.codeIn K cd_l_web "_law_web" = true)
    (k_l_web : PySem.W.keepIn K (.ref a_l_web) = true)
    (f_l_part : PySem.W.nsIn K mainGlobals "_law_part" = some (some (.ref a_l_part)))
    (l_l_part : K.lookup a_l_part = some ⟨oc_l_part, od_l_part, .func (PySem.W.fnOf "_law_part" "_law_part" (defArgs s_l_part) (defBody s_l_part) (defScope s_l_part) .none kV_l_part dc_l_part pm_l_part an_l_part cd_l_part ct_l_part), sl_l_part⟩)
    (c_l_part : PySem.W.codeIn K cd_l_part "_law_part" = true)
    (k_l_part : PySem.W.keepIn K (.ref a_l_part) = true)
    (f_l_others : PySem.W.nsIn K mainGlobals "_law_others" = some (some (.ref a_l_others)))
    (l_l_others : K.lookup a_l_others = some ⟨oc_l_others, od_l_others, .func (PySem.W.fnOf "_law_others" "_law_others" (defArgs s_l_others) (defBody s_l_others) (defScope s_l_others) .none kV_l_others dc_l_others pm_l_others an_l_others cd_l_others ct_l_others), sl_l_others⟩)
    (c_l_others : PySem.W.codeIn K cd_l_others "_law_others" = true)
    (k_l_others : PySem.W.keepIn K (.ref a_l_others) = true)
    (f_l_is : PySem.W.nsIn K mainGlobals "_law_is" = some (some (.ref a_l_is)))
    (l_l_is : K.lookup a_l_is = some ⟨oc_l_is, od_l_is, .func (PySem.W.fnOf "_law_is" "_law_is" (defArgs s_l_is) (defBody s_l_is) (defScope s_l_is) .none kV_l_is dc_l_is pm_l_is an_l_is cd_l_is ct_l_is), sl_l_is⟩)
    (c_l_is : PySem.W.codeIn K cd_l_is "_law_is" = true)
    (k_l_is : PySem.W.keepIn K (.ref a_l_is) = true)
    (f_l_spoilt : PySem.W.nsIn K mainGlobals "_law_spoilt" = some (some (.ref a_l_spoilt)))
    (l_l_spoilt : K.lookup a_l_spoilt = some ⟨oc_l_spoilt, od_l_spoilt, .func (PySem.W.fnOf "_law_spoilt" "_law_spoilt" (defArgs s_l_spoilt) (defBody s_l_spoilt) (defScope s_l_spoilt) .none kV_l_spoilt dc_l_spoilt pm_l_spoilt an_l_spoilt cd_l_spoilt ct_l_spoilt), sl_l_spoilt⟩)
    (c_l_spoilt : PySem.W.codeIn K cd_l_spoilt "_law_spoilt" = true)
    (k_l_spoilt : PySem.W.keepIn K (.ref a_l_spoilt) = true)
    (f_l_refused : PySem.W.nsIn K mainGlobals "_law_refused" = some (some (.ref a_l_refused)))
    (l_l_refused : K.lookup a_l_refused = some ⟨oc_l_refused, od_l_refused, .func (PySem.W.fnOf "_law_refused" "_law_refused" (defArgs s_l_refused) (defBody s_l_refused) (defScope s_l_refused) .none kV_l_refused dc_l_refused pm_l_refused an_l_refused cd_l_refused ct_l_refused), sl_l_refused⟩)
    (c_l_refused : PySem.W.codeIn K cd_l_refused "_law_refused" = true)
    (k_l_refused : PySem.W.keepIn K (.ref a_l_refused) = true)
    (f_law : PySem.W.nsIn K mainGlobals "law" = some (some (.ref a_law)))
    (l_law : K.lookup a_law = some ⟨oc_law, od_law, .func (PySem.W.fnOf "law" "law" (defArgs s_law) (defBody s_law) (defScope s_law) .none kV_law dc_law pm_law an_law cd_law ct_law), sl_law⟩)
    (c_law : PySem.W.codeIn K cd_law "law" = true)
    (k_law : PySem.W.keepIn K (.ref a_law) = true)
    (pg_Web : PySem.W.plainGet K c_Web Str.empty = true)
    (hd_Web : PySem.W.hasDictIn K c_Web = true)
    (po_Web : PySem.W.plainOver K c_Web = true)
    (sa_Web : PySem.W.findIn K (.ref c_Web) "__setattr__" = some (some (.builtin "object.__setattr__")))
    (mm_Web : PySem.W.makesIn K c_Web = true)
    (kc_Web : PySem.W.keepIn K (.ref c_Web) = true)
    (n_Web__near : PySem.W.findIn K (.ref c_Web) "_near" = some none)
    (xBadSize : PySem.W.excIn K c_BadSize [.type "ValueError", .type "Exception", .type "BaseException", .type "object"] "ValueError.__new__" = true)
    (kBadSize : PySem.W.keepIn K (.ref c_BadSize) = true)
    (bBadSize : PySem.W.subIn K (.ref c_BadSize) (.type "BaseException") = some true)
    (tBadSize : PySem.W.typeIn K (.ref c_BadSize) = some (.type "type"))
    (xBadPoint : PySem.W.excIn K c_BadPoint [.type "ValueError", .type "Exception", .type "BaseException", .type "object"] "ValueError.__new__" = true)
    (kBadPoint : PySem.W.keepIn K (.ref c_BadPoint) = true)
    (bBadPoint : PySem.W.subIn K (.ref c_BadPoint) (.type "BaseException") = some true)
    (tBadPoint : PySem.W.typeIn K (.ref c_BadPoint) = some (.type "type"))
    (xTwice : PySem.W.excIn K c_Twice [.type "ValueError", .type "Exception", .type "BaseException", .type "object"] "ValueError.__new__" = true)
    (kTwice : PySem.W.keepIn K (.ref c_Twice) = true)
    (bTwice : PySem.W.subIn K (.ref c_Twice) (.type "BaseException") = some true)
    (tTwice : PySem.W.typeIn K (.ref c_Twice) = some (.type "type"))
    (xNoTie : PySem.W.excIn K c_NoTie [.type "ValueError", .type "Exception", .type "BaseException", .type "object"] "ValueError.__new__" = true)
    (kNoTie : PySem.W.keepIn K (.ref c_NoTie) = true)
    (bNoTie : PySem.W.subIn K (.ref c_NoTie) (.type "BaseException") = some true)
    (tNoTie : PySem.W.typeIn K (.ref c_NoTie) = some (.type "type"))
    (xTooMany : PySem.W.excIn K c_TooMany [.type "ValueError", .type "Exception", .type "BaseException", .type "object"] "ValueError.__new__" = true)
    (kTooMany : PySem.W.keepIn K (.ref c_TooMany) = true)
    (bTooMany : PySem.W.subIn K (.ref c_TooMany) (.type "BaseException") = some true)
    (tTooMany : PySem.W.typeIn K (.ref c_TooMany) = some (.type "type"))
    (hb_JoinError : PySem.W.subIn K (.ref c_JoinError) (.type "BaseException") = some true)
    (hdd_JoinError : PySem.W.hasDictIn K c_JoinError = true)
    (ht_JoinError : PySem.W.typeIn K (.ref c_JoinError) = some (.type "type"))
    (su_BadSize_JoinError : PySem.W.subIn K (.ref c_BadSize) (.ref c_JoinError) = some true)
    (su_BadPoint_JoinError : PySem.W.subIn K (.ref c_BadPoint) (.ref c_JoinError) = some true)
    (su_Twice_JoinError : PySem.W.subIn K (.ref c_Twice) (.ref c_JoinError) = some true)
    (su_NoTie_JoinError : PySem.W.subIn K (.ref c_NoTie) (.ref c_JoinError) = some true)
    (su_TooMany_JoinError : PySem.W.subIn K (.ref c_TooMany) (.ref c_JoinError) = some true)
    (hn0 : PySem.W.specialIn K (.builtin "object.__class__") "__get__" = some (some (.builtin "getset_descriptor.__get__")))
    (ht0 : PySem.W.takesIn K (.builtin "object.__class__") = some true)
    (sd_BadSize : PySem.W.hasDictIn K c_BadSize = true)
    (st_BadSize : PySem.W.typeIn K (.ref c_BadSize) = some (.type "type"))
    (ss_BadSize : PySem.W.subIn K (.ref c_BadSize) (.ref c_BadSize) = some true)
    (sd_BadPoint : PySem.W.hasDictIn K c_BadPoint = true)
    (st_BadPoint : PySem.W.typeIn K (.ref c_BadPoint) = some (.type "type"))
    (ss_BadPoint : PySem.W.subIn K (.ref c_BadPoint) (.ref c_BadPoint) = some true)
    (sd_Twice : PySem.W.hasDictIn K c_Twice = true)
    (st_Twice : PySem.W.typeIn K (.ref c_Twice) = some (.type "type"))
    (ss_Twice : PySem.W.subIn K (.ref c_Twice) (.ref c_Twice) = some true)
    (sd_NoTie : PySem.W.hasDictIn K c_NoTie = true)
    (st_NoTie : PySem.W.typeIn K (.ref c_NoTie) = some (.type "type"))
    (ss_NoTie : PySem.W.subIn K (.ref c_NoTie) (.ref c_NoTie) = some true)
    (sd_TooMany : PySem.W.hasDictIn K c_TooMany = true)
    (st_TooMany : PySem.W.typeIn K (.ref c_TooMany) = some (.type "type"))
    (ss_TooMany : PySem.W.subIn K (.ref c_TooMany) (.ref c_TooMany) = some true)
    (sd_NoTree : PySem.W.hasDictIn K c_NoTree = true)
    (st_NoTree : PySem.W.typeIn K (.ref c_NoTree) = some (.type "type"))
    (ss_NoTree : PySem.W.subIn K (.ref c_NoTree) (.ref c_NoTree) = some true)
    (sd_BadTree : PySem.W.hasDictIn K c_BadTree = true)
    (st_BadTree : PySem.W.typeIn K (.ref c_BadTree) = some (.type "type"))
    (ss_BadTree : PySem.W.subIn K (.ref c_BadTree) (.ref c_BadTree) = some true)
    (sd_BadText : PySem.W.hasDictIn K c_BadText = true)
    (st_BadText : PySem.W.typeIn K (.ref c_BadText) = some (.type "type"))
    (ss_BadText : PySem.W.subIn K (.ref c_BadText) (.ref c_BadText) = some true)
    (eg_BadSize : PySem.W.findIn K (.ref c_BadSize) "__getattribute__" = some (some (.builtin "BaseException.__getattribute__")))
    (ek_BadSize : PySem.W.findIn K (.ref c_BadSize) "__getattr__" = some none)
    (ed_BadSize : PySem.W.hasDictIn K c_BadSize = true)
    (ea_BadSize : PySem.W.findIn K (.ref c_BadSize) "__class__" = some (some (.builtin "object.__class__")))
    (em_BadSize : PySem.W.mroIn K c_BadSize (.type "object") = some true)
    (is_BadSize_BadSize : PySem.W.subIn K (.ref c_BadSize) (.ref c_BadSize) = some true)
    (is_BadSize_BadPoint : PySem.W.subIn K (.ref c_BadSize) (.ref c_BadPoint) = some false)
    (is_BadSize_Twice : PySem.W.subIn K (.ref c_BadSize) (.ref c_Twice) = some false)
    (is_BadSize_NoTie : PySem.W.subIn K (.ref c_BadSize) (.ref c_NoTie) = some false)
    (is_BadSize_TooMany : PySem.W.subIn K (.ref c_BadSize) (.ref c_TooMany) = some false)
    (is_BadSize_NoTree : PySem.W.subIn K (.ref c_BadSize) (.ref c_NoTree) = some false)
    (is_BadSize_BadTree : PySem.W.subIn K (.ref c_BadSize) (.ref c_BadTree) = some false)
    (is_BadSize_BadText : PySem.W.subIn K (.ref c_BadSize) (.ref c_BadText) = some false)
    (is_BadSize_ValueError : PySem.W.subIn K (.ref c_BadSize) (.type "ValueError") = some true)
    (eg_BadPoint : PySem.W.findIn K (.ref c_BadPoint) "__getattribute__" = some (some (.builtin "BaseException.__getattribute__")))
    (ek_BadPoint : PySem.W.findIn K (.ref c_BadPoint) "__getattr__" = some none)
    (ed_BadPoint : PySem.W.hasDictIn K c_BadPoint = true)
    (ea_BadPoint : PySem.W.findIn K (.ref c_BadPoint) "__class__" = some (some (.builtin "object.__class__")))
    (em_BadPoint : PySem.W.mroIn K c_BadPoint (.type "object") = some true)
    (is_BadPoint_BadSize : PySem.W.subIn K (.ref c_BadPoint) (.ref c_BadSize) = some false)
    (is_BadPoint_BadPoint : PySem.W.subIn K (.ref c_BadPoint) (.ref c_BadPoint) = some true)
    (is_BadPoint_Twice : PySem.W.subIn K (.ref c_BadPoint) (.ref c_Twice) = some false)
    (is_BadPoint_NoTie : PySem.W.subIn K (.ref c_BadPoint) (.ref c_NoTie) = some false)
    (is_BadPoint_TooMany : PySem.W.subIn K (.ref c_BadPoint) (.ref c_TooMany) = some false)
    (is_BadPoint_NoTree : PySem.W.subIn K (.ref c_BadPoint) (.ref c_NoTree) = some false)
    (is_BadPoint_BadTree : PySem.W.subIn K (.ref c_BadPoint) (.ref c_BadTree) = some false)
    (is_BadPoint_BadText : PySem.W.subIn K (.ref c_BadPoint) (.ref c_BadText) = some false)
    (is_BadPoint_ValueError : PySem.W.subIn K (.ref c_BadPoint) (.type "ValueError") = some true)
    (eg_Twice : PySem.W.findIn K (.ref c_Twice) "__getattribute__" = some (some (.builtin "BaseException.__getattribute__")))
    (ek_Twice : PySem.W.findIn K (.ref c_Twice) "__getattr__" = some none)
    (ed_Twice : PySem.W.hasDictIn K c_Twice = true)
    (ea_Twice : PySem.W.findIn K (.ref c_Twice) "__class__" = some (some (.builtin "object.__class__")))
    (em_Twice : PySem.W.mroIn K c_Twice (.type "object") = some true)
    (is_Twice_BadSize : PySem.W.subIn K (.ref c_Twice) (.ref c_BadSize) = some false)
    (is_Twice_BadPoint : PySem.W.subIn K (.ref c_Twice) (.ref c_BadPoint) = some false)
    (is_Twice_Twice : PySem.W.subIn K (.ref c_Twice) (.ref c_Twice) = some true)
    (is_Twice_NoTie : PySem.W.subIn K (.ref c_Twice) (.ref c_NoTie) = some false)
    (is_Twice_TooMany : PySem.W.subIn K (.ref c_Twice) (.ref c_TooMany) = some false)
    (is_Twice_NoTree : PySem.W.subIn K (.ref c_Twice) (.ref c_NoTree) = some false)
    (is_Twice_BadTree : PySem.W.subIn K (.ref c_Twice) (.ref c_BadTree) = some false)
    (is_Twice_BadText : PySem.W.subIn K (.ref c_Twice) (.ref c_BadText) = some false)
    (is_Twice_ValueError : PySem.W.subIn K (.ref c_Twice) (.type "ValueError") = some true)
    (eg_NoTie : PySem.W.findIn K (.ref c_NoTie) "__getattribute__" = some (some (.builtin "BaseException.__getattribute__")))
    (ek_NoTie : PySem.W.findIn K (.ref c_NoTie) "__getattr__" = some none)
    (ed_NoTie : PySem.W.hasDictIn K c_NoTie = true)
    (ea_NoTie : PySem.W.findIn K (.ref c_NoTie) "__class__" = some (some (.builtin "object.__class__")))
    (em_NoTie : PySem.W.mroIn K c_NoTie (.type "object") = some true)
    (is_NoTie_BadSize : PySem.W.subIn K (.ref c_NoTie) (.ref c_BadSize) = some false)
    (is_NoTie_BadPoint : PySem.W.subIn K (.ref c_NoTie) (.ref c_BadPoint) = some false)
    (is_NoTie_Twice : PySem.W.subIn K (.ref c_NoTie) (.ref c_Twice) = some false)
    (is_NoTie_NoTie : PySem.W.subIn K (.ref c_NoTie) (.ref c_NoTie) = some true)
    (is_NoTie_TooMany : PySem.W.subIn K (.ref c_NoTie) (.ref c_TooMany) = some false)
    (is_NoTie_NoTree : PySem.W.subIn K (.ref c_NoTie) (.ref c_NoTree) = some false)
    (is_NoTie_BadTree : PySem.W.subIn K (.ref c_NoTie) (.ref c_BadTree) = some false)
    (is_NoTie_BadText : PySem.W.subIn K (.ref c_NoTie) (.ref c_BadText) = some false)
    (is_NoTie_ValueError : PySem.W.subIn K (.ref c_NoTie) (.type "ValueError") = some true)
    (eg_TooMany : PySem.W.findIn K (.ref c_TooMany) "__getattribute__" = some (some (.builtin "BaseException.__getattribute__")))
    (ek_TooMany : PySem.W.findIn K (.ref c_TooMany) "__getattr__" = some none)
    (ed_TooMany : PySem.W.hasDictIn K c_TooMany = true)
    (ea_TooMany : PySem.W.findIn K (.ref c_TooMany) "__class__" = some (some (.builtin "object.__class__")))
    (em_TooMany : PySem.W.mroIn K c_TooMany (.type "object") = some true)
    (is_TooMany_BadSize : PySem.W.subIn K (.ref c_TooMany) (.ref c_BadSize) = some false)
    (is_TooMany_BadPoint : PySem.W.subIn K (.ref c_TooMany) (.ref c_BadPoint) = some false)
    (is_TooMany_Twice : PySem.W.subIn K (.ref c_TooMany) (.ref c_Twice) = some false)
    (is_TooMany_NoTie : PySem.W.subIn K (.ref c_TooMany) (.ref c_NoTie) = some false)
    (is_TooMany_TooMany : PySem.W.subIn K (.ref c_TooMany) (.ref c_TooMany) = some true)
    (is_TooMany_NoTree : PySem.W.subIn K (.ref c_TooMany) (.ref c_NoTree) = some false)
    (is_TooMany_BadTree : PySem.W.subIn K (.ref c_TooMany) (.ref c_BadTree) = some false)
    (is_TooMany_BadText : PySem.W.subIn K (.ref c_TooMany) (.ref c_BadText) = some false)
    (is_TooMany_ValueError : PySem.W.subIn K (.ref c_TooMany) (.type "ValueError") = some true)
    (ia_Web : PySem.W.findIn K (.ref c_Web) "__class__" = some (some (.builtin "object.__class__")))
    (im_Web : PySem.W.mroIn K c_Web (.type "object") = some true)
    (z_ValueError : PySem.W.nsIn K mainGlobals "ValueError" = some none)
    (z_bool : PySem.W.nsIn K mainGlobals "bool" = some none)
    (z_int : PySem.W.nsIn K mainGlobals "int" = some none)
    (z_isinstance : PySem.W.nsIn K mainGlobals "isinstance" = some none)
    (z_len : PySem.W.nsIn K mainGlobals "len" = some none)
    (z_list : PySem.W.nsIn K mainGlobals "list" = some none)
    (z_max : PySem.W.nsIn K mainGlobals "max" = some none)
    (z_min : PySem.W.nsIn K mainGlobals "min" = some none)
    (z_range : PySem.W.nsIn K mainGlobals "range" = some none)
    (z_set : PySem.W.nsIn K mainGlobals "set" = some none)
    (z_sorted : PySem.W.nsIn K mainGlobals "sorted" = some none)
    (z_tuple : PySem.W.nsIn K mainGlobals "tuple" = some none)
    (v_MOST_POINTS : PySem.W.nsIn K mainGlobals "MOST_POINTS" = some (some (.int (30) tk_MOST_POINTS))) :
    ∃ fd : FuncData, (∀ (s : Shared) (v : Value), BindsTo s fd ⟨[v], []⟩ [("_law_script", v)]) ∧ ∀ base : Heap, K.In base → base.Ns mainGlobals mg → FnG l.prog w K mg base 8 fa fd ["_law_script"] (spLaw K) := by
  have e := hfa.symm.trans (PySem.W.mg_of X G f_law)
  obtain rfl : a_law = fa := by cases e; rfl
  have T : Txt K mg { a_wall := a_wall, d_wall := PySem.W.fnOf "_wall" "_wall" (defArgs s_wall) (defBody s_wall) (defScope s_wall) .none kV_wall dc_wall pm_wall an_wall cd_wall ct_wall, a_whole_within := a_whole_within, d_whole_within := PySem.W.fnOf "whole_within" "whole_within" (defArgs s_whole_within) (defBody s_whole_within) (defScope s_whole_within) .none kV_whole_within dc_whole_within pm_whole_within an_whole_within cd_whole_within ct_whole_within, a_unlike_points := a_unlike_points, d_unlike_points := PySem.W.fnOf "unlike_points" "unlike_points" (defArgs s_unlike_points) (defBody s_unlike_points) (defScope s_unlike_points) .none kV_unlike_points dc_unlike_points pm_unlike_points an_unlike_points cd_unlike_points ct_unlike_points, a_pairs := a_pairs, d_pairs := PySem.W.fnOf "pairs" "pairs" (defArgs s_pairs) (defBody s_pairs) (defScope s_pairs) .none kV_pairs dc_pairs pm_pairs an_pairs cd_pairs ct_pairs, a_Web_init := a_Web_init, d_Web_init := PySem.W.fnOf "__init__" "Web.__init__" (defArgs s_Web_init) (defBody s_Web_init) (defScope s_Web_init) .none kV_Web_init dc_Web_init pm_Web_init an_Web_init cd_Web_init ct_Web_init, a_Web_many := a_Web_many, d_Web_many := PySem.W.fnOf "many" "Web.many" (defArgs s_Web_many) (defBody s_Web_many) (defScope s_Web_many) .none kV_Web_many dc_Web_many pm_Web_many an_Web_many cd_Web_many ct_Web_many, a_Web_has := a_Web_has, d_Web_has := PySem.W.fnOf "has" "Web.has" (defArgs s_Web_has) (defBody s_Web_has) (defScope s_Web_has) .none kV_Web_has dc_Web_has pm_Web_has an_Web_has cd_Web_has ct_Web_has, a_Web_put := a_Web_put, d_Web_put := PySem.W.fnOf "put" "Web.put" (defArgs s_Web_put) (defBody s_Web_put) (defScope s_Web_put) .none kV_Web_put dc_Web_put pm_Web_put an_Web_put cd_Web_put ct_Web_put, a_Web_take := a_Web_take, d_Web_take := PySem.W.fnOf "take" "Web.take" (defArgs s_Web_take) (defBody s_Web_take) (defScope s_Web_take) .none kV_Web_take dc_Web_take pm_Web_take an_Web_take cd_Web_take ct_Web_take, a_Web_grow := a_Web_grow, d_Web_grow := PySem.W.fnOf "grow" "Web.grow" (defArgs s_Web_grow) (defBody s_Web_grow) (defScope s_Web_grow) .none kV_Web_grow dc_Web_grow pm_Web_grow an_Web_grow cd_Web_grow ct_Web_grow, a_Web_ties := a_Web_ties, d_Web_ties := PySem.W.fnOf "ties" "Web.ties" (defArgs s_Web_ties) (defBody s_Web_ties) (defScope s_Web_ties) .none kV_Web_ties dc_Web_ties pm_Web_ties an_Web_ties cd_Web_ties ct_Web_ties, a_Web_need_point := a_Web_need_point, d_Web_need_point := PySem.W.fnOf "_need_point" "Web._need_point" (defArgs s_Web_need_point) (defBody s_Web_need_point) (defScope s_Web_need_point) .none kV_Web_need_point dc_Web_need_point pm_Web_need_point an_Web_need_point cd_Web_need_point ct_Web_need_point, a_part := a_part, d_part := PySem.W.fnOf "part" "part" (defArgs s_part) (defBody s_part) (defScope s_part) .none kV_part dc_part pm_part an_part cd_part ct_part, a_opposite := a_opposite, d_opposite := PySem.W.fnOf "opposite" "opposite" (defArgs s_opposite) (defBody s_opposite) (defScope s_opposite) .none kV_opposite dc_opposite pm_opposite an_opposite cd_opposite ct_opposite, a_l_mixed := a_l_mixed, d_l_mixed := PySem.W.fnOf "_law_mixed" "_law_mixed" (defArgs s_l_mixed) (defBody s_l_mixed) (defScope s_l_mixed) .none kV_l_mixed dc_l_mixed pm_l_mixed an_l_mixed cd_l_mixed ct_l_mixed, a_l_number := a_l_number, d_l_number := PySem.W.fnOf "_law_number" "_law_number" (defArgs s_l_number) (defBody s_l_number) (defScope s_l_number) .none kV_l_number dc_l_number pm_l_number an_l_number cd_l_number ct_l_number, a_l_kind := a_l_kind, d_l_kind := PySem.W.fnOf "_law_kind" "_law_kind" (defArgs s_l_kind) (defBody s_l_kind) (defScope s_l_kind) .none kV_l_kind dc_l_kind pm_l_kind an_l_kind cd_l_kind ct_l_kind, a_l_order := a_l_order, d_l_order := PySem.W.fnOf "_law_order" "_law_order" (defArgs s_l_order) (defBody s_l_order) (defScope s_l_order) .none kV_l_order dc_l_order pm_l_order an_l_order cd_l_order ct_l_order, a_l_web := a_l_web, d_l_web := PySem.W.fnOf "_law_web" "_law_web" (defArgs s_l_web) (defBody s_l_web) (defScope s_l_web) .none kV_l_web dc_l_web pm_l_web an_l_web cd_l_web ct_l_web, a_l_part := a_l_part, d_l_part := PySem.W.fnOf "_law_part" "_law_part" (defArgs s_l_part) (defBody s_l_part) (defScope s_l_part) .none kV_l_part dc_l_part pm_l_part an_l_part cd_l_part ct_l_part, a_l_others := a_l_others, d_l_others := PySem.W.fnOf "_law_others" "_law_others" (defArgs s_l_others) (defBody s_l_others) (defScope s_l_others) .none kV_l_others dc_l_others pm_l_others an_l_others cd_l_others ct_l_others, a_l_is := a_l_is, d_l_is := PySem.W.fnOf "_law_is" "_law_is" (defArgs s_l_is) (defBody s_l_is) (defScope s_l_is) .none kV_l_is dc_l_is pm_l_is an_l_is cd_l_is ct_l_is, a_l_spoilt := a_l_spoilt, d_l_spoilt := PySem.W.fnOf "_law_spoilt" "_law_spoilt" (defArgs s_l_spoilt) (defBody s_l_spoilt) (defScope s_l_spoilt) .none kV_l_spoilt dc_l_spoilt pm_l_spoilt an_l_spoilt cd_l_spoilt ct_l_spoilt, a_l_refused := a_l_refused, d_l_refused := PySem.W.fnOf "_law_refused" "_law_refused" (defArgs s_l_refused) (defBody s_l_refused) (defScope s_l_refused) .none kV_l_refused dc_l_refused pm_l_refused an_l_refused cd_l_refused ct_l_refused, a_law := a_law, d_law := PySem.W.fnOf "law" "law" (defArgs s_law) (defBody s_law) (defScope s_law) .none kV_law dc_law pm_law an_law cd_law ct_law, c_BadPoint := c_BadPoint, c_BadSize := c_BadSize, c_BadText := c_BadText, c_BadTree := c_BadTree, c_JoinError := c_JoinError, c_NoTie := c_NoTie, c_NoTree := c_NoTree, c_TooMany := c_TooMany, c_Twice := c_Twice, c_Web := c_Web } := {
    g_wall := PySem.W.mg_of X G f_wall
    k_wall := k_wall
    b_wall := (fun_mk (st := s_wall) l_wall c_wall k_wall).binds (ps := ["k"]) fun _ _ _ _ _ _ us hl => match us, hl with | [_], _ => rfl
    F_wall := fun_mk (st := s_wall) l_wall c_wall k_wall
    g_whole_within := PySem.W.mg_of X G f_whole_within
    k_whole_within := k_whole_within
    b_whole_within := (fun_mk (st := s_whole_within) l_whole_within c_whole_within k_whole_within).binds (ps := ["number", "least", "most"]) fun _ _ _ _ _ _ us hl => match us, hl with | [_, _, _], _ => rfl
    F_whole_within := fun_mk (st := s_whole_within) l_whole_within c_whole_within k_whole_within
    g_unlike_points := PySem.W.mg_of X G f_unlike_points
    k_unlike_points := k_unlike_points
    b_unlike_points := (fun_mk (st := s_unlike_points) l_unlike_points c_unlike_points k_unlike_points).binds (ps := ["points", "many"]) fun _ _ _ _ _ _ us hl => match us, hl with | [_, _], _ => rfl
    F_unlike_points := fun_mk (st := s_unlike_points) l_unlike_points c_unlike_points k_unlike_points
    g_pairs := PySem.W.mg_of X G f_pairs
    k_pairs := k_pairs
    b_pairs := (fun_mk (st := s_pairs) l_pairs c_pairs k_pairs).binds (ps := ["many"]) fun _ _ _ _ _ _ us hl => match us, hl with | [_], _ => rfl
    F_pairs := fun_mk (st := s_pairs) l_pairs c_pairs k_pairs
    b_Web_init := (fun_mk (st := s_Web_init) l_Web_init c_Web_init k_Web_init).binds (ps := ["self", "many"]) fun _ _ _ _ _ _ us hl => match us, hl with | [_, _], _ => rfl
    F_Web_init := fun_mk (st := s_Web_init) l_Web_init c_Web_init k_Web_init
    m_Web_many := ⟨f_Web_many, i_Web_many, k_Web_many⟩
    b_Web_many := (fun_mk (st := s_Web_many) l_Web_many c_Web_many k_Web_many).binds (ps := ["self"]) fun _ _ _ _ _ _ us hl => match us, hl with | [_], _ => rfl
    F_Web_many := fun_mk (st := s_Web_many) l_Web_many c_Web_many k_Web_many
    m_Web_has := ⟨f_Web_has, i_Web_has, k_Web_has⟩
    b_Web_has := (fun_mk (st := s_Web_has) l_Web_has c_Web_has k_Web_has).binds (ps := ["self", "one", "other"]) fun _ _ _ _ _ _ us hl => match us, hl with | [_, _, _], _ => rfl
    F_Web_has := fun_mk (st := s_Web_has) l_Web_has c_Web_has k_Web_has
    m_Web_put := ⟨f_Web_put, i_Web_put, k_Web_put⟩
    b_Web_put := (fun_mk (st := s_Web_put) l_Web_put c_Web_put k_Web_put).binds (ps := ["self", "one", "other"]) fun _ _ _ _ _ _ us hl => match us, hl with | [_, _, _], _ => rfl
    F_Web_put := fun_mk (st := s_Web_put) l_Web_put c_Web_put k_Web_put
    m_Web_take := ⟨f_Web_take, i_Web_take, k_Web_take⟩
    b_Web_take := (fun_mk (st := s_Web_take) l_Web_take c_Web_take k_Web_take).binds (ps := ["self", "one", "other"]) fun _ _ _ _ _ _ us hl => match us, hl with | [_, _, _], _ => rfl
    F_Web_take := fun_mk (st := s_Web_take) l_Web_take c_Web_take k_Web_take
    m_Web_grow := ⟨f_Web_grow, i_Web_grow, k_Web_grow⟩
    b_Web_grow := (fun_mk (st := s_Web_grow) l_Web_grow c_Web_grow k_Web_grow).binds (ps := ["self"]) fun _ _ _ _ _ _ us hl => match us, hl with | [_], _ => rfl
    F_Web_grow := fun_mk (st := s_Web_grow) l_Web_grow c_Web_grow k_Web_grow
    m_Web_ties := ⟨f_Web_ties, i_Web_ties, k_Web_ties⟩
    b_Web_ties := (fun_mk (st := s_Web_ties) l_Web_ties c_Web_ties k_Web_ties).binds (ps := ["self"]) fun _ _ _ _ _ _ us hl => match us, hl with | [_], _ => rfl
    F_Web_ties := fun_mk (st := s_Web_ties) l_Web_ties c_Web_ties k_Web_ties
    m_Web_need_point := ⟨f_Web_need_point, i_Web_need_point, k_Web_need_point⟩
    b_Web_need_point := (fun_mk (st := s_Web_need_point) l_Web_need_point c_Web_need_point k_Web_need_point).binds (ps := ["self", "point"]) fun _ _ _ _ _ _ us hl => match us, hl with | [_, _], _ => rfl
    F_Web_need_point := fun_mk (st := s_Web_need_point) l_Web_need_point c_Web_need_point k_Web_need_point
    g_part := PySem.W.mg_of X G f_part
    k_part := k_part
    b_part := (fun_mk (st := s_part) l_part c_part k_part).binds (ps := ["web", "points"]) fun _ _ _ _ _ _ us hl => match us, hl with | [_, _], _ => rfl
    F_part := fun_mk (st := s_part) l_part c_part k_part
    g_opposite := PySem.W.mg_of X G f_opposite
    k_opposite := k_opposite
    b_opposite := (fun_mk (st := s_opposite) l_opposite c_opposite k_opposite).binds (ps := ["web"]) fun _ _ _ _ _ _ us hl => match us, hl with | [_], _ => rfl
    F_opposite := fun_mk (st := s_opposite) l_opposite c_opposite k_opposite
    g_l_mixed := PySem.W.mg_of X G f_l_mixed
    k_l_mixed := k_l_mixed
    b_l_mixed := (fun_mk (st := s_l_mixed) l_l_mixed c_l_mixed k_l_mixed).binds (ps := ["_law_cell", "_law_k"]) fun _ _ _ _ _ _ us hl => match us, hl with | [_, _], _ => rfl
    F_l_mixed := fun_mk (st := s_l_mixed) l_l_mixed c_l_mixed k_l_mixed
    g_l_number := PySem.W.mg_of X G f_l_number
    k_l_number := k_l_number
    b_l_number := (fun_mk (st := s_l_number) l_l_number c_l_number k_l_number).binds (ps := ["_law_script", "_law_k"]) fun _ _ _ _ _ _ us hl => match us, hl with | [_, _], _ => rfl
    F_l_number := fun_mk (st := s_l_number) l_l_number c_l_number k_l_number
    g_l_kind := PySem.W.mg_of X G f_l_kind
    k_l_kind := k_l_kind
    b_l_kind := (fun_mk (st := s_l_kind) l_l_kind c_l_kind k_l_kind).binds (ps := ["_law_e"]) fun _ _ _ _ _ _ us hl => match us, hl with | [_], _ => rfl
    F_l_kind := fun_mk (st := s_l_kind) l_l_kind c_l_kind k_l_kind
    g_l_order := PySem.W.mg_of X G f_l_order
    k_l_order := k_l_order
    b_l_order := (fun_mk (st := s_l_order) l_l_order c_l_order k_l_order).binds (ps := ["_law_many", "_law_number_here"]) fun _ _ _ _ _ _ us hl => match us, hl with | [_, _], _ => rfl
    F_l_order := fun_mk (st := s_l_order) l_l_order c_l_order k_l_order
    g_l_web := PySem.W.mg_of X G f_l_web
    k_l_web := k_l_web
    b_l_web := (fun_mk (st := s_l_web) l_l_web c_l_web k_l_web).binds (ps := ["_law_script", "_law_many"]) fun _ _ _ _ _ _ us hl => match us, hl with | [_, _], _ => rfl
    F_l_web := fun_mk (st := s_l_web) l_l_web c_l_web k_l_web
    g_l_part := PySem.W.mg_of X G f_l_part
    k_l_part := k_l_part
    b_l_part := (fun_mk (st := s_l_part) l_l_part c_l_part k_l_part).binds (ps := ["_law_ties", "_law_points"]) fun _ _ _ _ _ _ us hl => match us, hl with | [_, _], _ => rfl
    F_l_part := fun_mk (st := s_l_part) l_l_part c_l_part k_l_part
    g_l_others := PySem.W.mg_of X G f_l_others
    k_l_others := k_l_others
    b_l_others := (fun_mk (st := s_l_others) l_l_others c_l_others k_l_others).binds (ps := ["_law_ties", "_law_many"]) fun _ _ _ _ _ _ us hl => match us, hl with | [_, _], _ => rfl
    F_l_others := fun_mk (st := s_l_others) l_l_others c_l_others k_l_others
    g_l_is := PySem.W.mg_of X G f_l_is
    k_l_is := k_l_is
    b_l_is := (fun_mk (st := s_l_is) l_l_is c_l_is k_l_is).binds (ps := ["_law_web_here", "_law_many", "_law_ties"]) fun _ _ _ _ _ _ us hl => match us, hl with | [_, _, _], _ => rfl
    F_l_is := fun_mk (st := s_l_is) l_l_is c_l_is k_l_is
    g_l_spoilt := PySem.W.mg_of X G f_l_spoilt
    k_l_spoilt := k_l_spoilt
    b_l_spoilt := (fun_mk (st := s_l_spoilt) l_l_spoilt c_l_spoilt k_l_spoilt).binds (ps := ["_law_points", "_law_cell", "_law_many"]) fun _ _ _ _ _ _ us hl => match us, hl with | [_, _, _], _ => rfl
    F_l_spoilt := fun_mk (st := s_l_spoilt) l_l_spoilt c_l_spoilt k_l_spoilt
    g_l_refused := PySem.W.mg_of X G f_l_refused
    k_l_refused := k_l_refused
    b_l_refused := (fun_mk (st := s_l_refused) l_l_refused c_l_refused k_l_refused).binds (ps := ["_law_web_here", "_law_thing"]) fun _ _ _ _ _ _ us hl => match us, hl with | [_, _], _ => rfl
    F_l_refused := fun_mk (st := s_l_refused) l_l_refused c_l_refused k_l_refused
    g_law := PySem.W.mg_of X G f_law
    k_law := k_law
    b_law := (fun_mk (st := s_law) l_law c_law k_law).binds (ps := ["_law_script"]) fun _ _ _ _ _ _ us hl => match us, hl with | [_], _ => rfl
    F_law := fun_mk (st := s_law) l_law c_law k_law
    cl_Web := ⟨pg_Web, hd_Web, po_Web, sa_Web⟩
    mk_Web := ⟨mm_Web, f_Web_init, i_Web_init, kc_Web⟩
    n_Web__near := n_Web__near
    gBadPoint := PySem.W.mg_of X G h_c_BadPoint
    gBadSize := PySem.W.mg_of X G h_c_BadSize
    gBadText := PySem.W.mg_of X G h_c_BadText
    gBadTree := PySem.W.mg_of X G h_c_BadTree
    gJoinError := PySem.W.mg_of X G h_c_JoinError
    gNoTie := PySem.W.mg_of X G h_c_NoTie
    gNoTree := PySem.W.mg_of X G h_c_NoTree
    gTooMany := PySem.W.mg_of X G h_c_TooMany
    gTwice := PySem.W.mg_of X G h_c_Twice
    gWeb := PySem.W.mg_of X G h_c_Web
    xBadSize := xBadSize
    kBadSize := kBadSize
    bBadSize := bBadSize
    tBadSize := tBadSize
    xBadPoint := xBadPoint
    kBadPoint := kBadPoint
    bBadPoint := bBadPoint
    tBadPoint := tBadPoint
    xTwice := xTwice
    kTwice := kTwice
    bTwice := bTwice
    tTwice := tTwice
    xNoTie := xNoTie
    kNoTie := kNoTie
    bNoTie := bNoTie
    tNoTie := tNoTie
    xTooMany := xTooMany
    kTooMany := kTooMany
    bTooMany := bTooMany
    tTooMany := tTooMany
    hb_JoinError := hb_JoinError
    hd_JoinError := hdd_JoinError
    ht_JoinError := ht_JoinError
    su_BadSize_JoinError := su_BadSize_JoinError
    su_BadPoint_JoinError := su_BadPoint_JoinError
    su_Twice_JoinError := su_Twice_JoinError
    su_NoTie_JoinError := su_NoTie_JoinError
    su_TooMany_JoinError := su_TooMany_JoinError
    ec_BadSize := ⟨eg_BadSize, ek_BadSize, bBadSize, ed_BadSize, ea_BadSize, hn0, ht0, em_BadSize⟩
    is_BadSize_BadSize := kit_ref sd_BadSize st_BadSize ss_BadSize is_BadSize_BadSize
    is_BadSize_BadPoint := kit_ref sd_BadPoint st_BadPoint ss_BadPoint is_BadSize_BadPoint
    is_BadSize_Twice := kit_ref sd_Twice st_Twice ss_Twice is_BadSize_Twice
    is_BadSize_NoTie := kit_ref sd_NoTie st_NoTie ss_NoTie is_BadSize_NoTie
    is_BadSize_TooMany := kit_ref sd_TooMany st_TooMany ss_TooMany is_BadSize_TooMany
    is_BadSize_NoTree := kit_ref sd_NoTree st_NoTree ss_NoTree is_BadSize_NoTree
    is_BadSize_BadTree := kit_ref sd_BadTree st_BadTree ss_BadTree is_BadSize_BadTree
    is_BadSize_BadText := kit_ref sd_BadText st_BadText ss_BadText is_BadSize_BadText
    is_BadSize_ValueError := kit_tyo (by decide +kernel) is_BadSize_ValueError
    ec_BadPoint := ⟨eg_BadPoint, ek_BadPoint, bBadPoint, ed_BadPoint, ea_BadPoint, hn0, ht0, em_BadPoint⟩
    is_BadPoint_BadSize := kit_ref sd_BadSize st_BadSize ss_BadSize is_BadPoint_BadSize
    is_BadPoint_BadPoint := kit_ref sd_BadPoint st_BadPoint ss_BadPoint is_BadPoint_BadPoint
    is_BadPoint_Twice := kit_ref sd_Twice st_Twice ss_Twice is_BadPoint_Twice
    is_BadPoint_NoTie := kit_ref sd_NoTie st_NoTie ss_NoTie is_BadPoint_NoTie
    is_BadPoint_TooMany := kit_ref sd_TooMany st_TooMany ss_TooMany is_BadPoint_TooMany
    is_BadPoint_NoTree := kit_ref sd_NoTree st_NoTree ss_NoTree is_BadPoint_NoTree
    is_BadPoint_BadTree := kit_ref sd_BadTree st_BadTree ss_BadTree is_BadPoint_BadTree
    is_BadPoint_BadText := kit_ref sd_BadText st_BadText ss_BadText is_BadPoint_BadText
    is_BadPoint_ValueError := kit_tyo (by decide +kernel) is_BadPoint_ValueError
    ec_Twice := ⟨eg_Twice, ek_Twice, bTwice, ed_Twice, ea_Twice, hn0, ht0, em_Twice⟩
    is_Twice_BadSize := kit_ref sd_BadSize st_BadSize ss_BadSize is_Twice_BadSize
    is_Twice_BadPoint := kit_ref sd_BadPoint st_BadPoint ss_BadPoint is_Twice_BadPoint
    is_Twice_Twice := kit_ref sd_Twice st_Twice ss_Twice is_Twice_Twice
    is_Twice_NoTie := kit_ref sd_NoTie st_NoTie ss_NoTie is_Twice_NoTie
    is_Twice_TooMany := kit_ref sd_TooMany st_TooMany ss_TooMany is_Twice_TooMany
    is_Twice_NoTree := kit_ref sd_NoTree st_NoTree ss_NoTree is_Twice_NoTree
    is_Twice_BadTree := kit_ref sd_BadTree st_BadTree ss_BadTree is_Twice_BadTree
    is_Twice_BadText := kit_ref sd_BadText st_BadText ss_BadText is_Twice_BadText
    is_Twice_ValueError := kit_tyo (by decide +kernel) is_Twice_ValueError
    ec_NoTie := ⟨eg_NoTie, ek_NoTie, bNoTie, ed_NoTie, ea_NoTie, hn0, ht0, em_NoTie⟩
    is_NoTie_BadSize := kit_ref sd_BadSize st_BadSize ss_BadSize is_NoTie_BadSize
    is_NoTie_BadPoint := kit_ref sd_BadPoint st_BadPoint ss_BadPoint is_NoTie_BadPoint
    is_NoTie_Twice := kit_ref sd_Twice st_Twice ss_Twice is_NoTie_Twice
    is_NoTie_NoTie := kit_ref sd_NoTie st_NoTie ss_NoTie is_NoTie_NoTie
    is_NoTie_TooMany := kit_ref sd_TooMany st_TooMany ss_TooMany is_NoTie_TooMany
    is_NoTie_NoTree := kit_ref sd_NoTree st_NoTree ss_NoTree is_NoTie_NoTree
    is_NoTie_BadTree := kit_ref sd_BadTree st_BadTree ss_BadTree is_NoTie_BadTree
    is_NoTie_BadText := kit_ref sd_BadText st_BadText ss_BadText is_NoTie_BadText
    is_NoTie_ValueError := kit_tyo (by decide +kernel) is_NoTie_ValueError
    ec_TooMany := ⟨eg_TooMany, ek_TooMany, bTooMany, ed_TooMany, ea_TooMany, hn0, ht0, em_TooMany⟩
    is_TooMany_BadSize := kit_ref sd_BadSize st_BadSize ss_BadSize is_TooMany_BadSize
    is_TooMany_BadPoint := kit_ref sd_BadPoint st_BadPoint ss_BadPoint is_TooMany_BadPoint
    is_TooMany_Twice := kit_ref sd_Twice st_Twice ss_Twice is_TooMany_Twice
    is_TooMany_NoTie := kit_ref sd_NoTie st_NoTie ss_NoTie is_TooMany_NoTie
    is_TooMany_TooMany := kit_ref sd_TooMany st_TooMany ss_TooMany is_TooMany_TooMany
    is_TooMany_NoTree := kit_ref sd_NoTree st_NoTree ss_NoTree is_TooMany_NoTree
    is_TooMany_BadTree := kit_ref sd_BadTree st_BadTree ss_BadTree is_TooMany_BadTree
    is_TooMany_BadText := kit_ref sd_BadText st_BadText ss_BadText is_TooMany_BadText
    is_TooMany_ValueError := kit_tyo (by decide +kernel) is_TooMany_ValueError
    isa_Web := ⟨ia_Web, hn0, ht0, im_Web⟩
    ValueError := PySem.W.mg_none_of X G z_ValueError
    bool := PySem.W.mg_none_of X G z_bool
    int := PySem.W.mg_none_of X G z_int
    isinstance := PySem.W.mg_none_of X G z_isinstance
    len := PySem.W.mg_none_of X G z_len
    list := PySem.W.mg_none_of X G z_list
    max := PySem.W.mg_none_of X G z_max
    min := PySem.W.mg_none_of X G z_min
    range := PySem.W.mg_none_of X G z_range
    set := PySem.W.mg_none_of X G z_set
    sorted := PySem.W.mg_none_of X G z_sorted
    tuple := PySem.W.mg_none_of X G z_tuple
    cMOST_POINTS := ⟨_, PySem.W.mg_of X G v_MOST_POINTS⟩ }
  exact ⟨_, fun s v => .of_eq rfl, fun base _ _ => ok_law T⟩

theorem walk {l : PySem.W.OpenLaw} {q : Program} {loose : List Str} {XP : (Str → Option Value) → Heap → Prop} {YP : World → Heap → Prop} {d : DefRec} {K : Params → PySem.W.Frag} (hn : l.most = some 63) (hdf : d.params.defaults = [])
    (hY : ∀ (w : World) (h : Heap), YP w h → (K w.params).In h)
    (F : ∀ (w : World) (mg : Str → Option Value) (fa : Addr) (h : Heap), (K w.params).In h → h.Ns mainGlobals mg → mg d.name = some (.ref fa) →
      ∃ fd : FuncData, (∀ (s : Shared) (u : Value), BindsTo s fd ⟨[u], []⟩ [("_law_script", u)]) ∧ ∀ base : Heap, (K w.params).In base → base.Ns mainGlobals mg → FnG l.prog w (K w.params) mg base 8 fa fd ["_law_script"] (spLaw (K w.params))) :
    PySem.W.WalkO q loose XP YP l.row.toRowW d [] (fun f vs => PySem.call f vs) :=
  walk_ofG (n := 63) (sp := spLaw) hn (by decide) hdf ⟨rfl, by decide, by decide⟩ hY F (fun _ _ a ns hl _ hS => ⟨a, ns, rfl, hS, hl, fun _ => rfl⟩)
end Jk
open PySem PySem.W PyProof.Rows
set_option maxRecDepth 100000 in
set_option maxHeartbeats 0 in
theorem PySem.Challenge.cw_joinside_k02_parts_and_opposites_holds : PySem.Challenge.rw_joinside_k02_parts_and_opposites.Holds := by
  w_on; o_law; k_head; (case hw => w_witness2)
  k_fill
  refine Jk.walk (l := PySem.Challenge.rw_joinside_k02_parts_and_opposites) rfl rfl (fun w h Y => PySem.W.kIn_of Y) ?F
  case F =>
    intro w mg fa h KX G hmg
    refine' Jk.all_mk KX G hmg ?h_c_BadPoint ?h_c_BadSize ?h_c_BadText ?h_c_BadTree ?h_c_JoinError ?h_c_NoTie ?h_c_NoTree ?h_c_TooMany ?h_c_Twice ?h_c_Web ?f_wall ?l_wall ?c_wall ?k_wall ?f_whole_within ?l_whole_within ?c_whole_within ?k_whole_within ?f_unlike_points ?l_unlike_points ?c_unlike_points ?k_unlike_points ?f_pairs ?l_pairs ?c_pairs ?k_pairs ?f_Web_init ?i_Web_init ?l_Web_init ?c_Web_init ?k_Web_init ?f_Web_many ?i_Web_many ?l_Web_many ?c_Web_many ?k_Web_many ?f_Web_has ?i_Web_has ?l_Web_has ?c_Web_has ?k_Web_has ?f_Web_put ?i_Web_put ?l_Web_put ?c_Web_put ?k_Web_put ?f_Web_take ?i_Web_take ?l_Web_take ?c_Web_take ?k_Web_take ?f_Web_grow ?i_Web_grow ?l_Web_grow ?c_Web_grow ?k_Web_grow ?f_Web_ties ?i_Web_ties ?l_Web_ties ?c_Web_ties ?k_Web_ties ?f_Web_need_point ?i_Web_need_point ?l_Web_need_point ?c_Web_need_point ?k_Web_need_point ?f_part ?l_part ?c_part ?k_part ?f_opposite ?l_opposite ?c_opposite ?k_opposite ?f_l_mixed ?l_l_mixed ?c_l_mixed ?k_l_mixed ?f_l_number ?l_l_number ?c_l_number ?k_l_number ?f_l_kind ?l_l_kind ?c_l_kind ?k_l_kind ?f_l_order ?l_l_order ?c_l_order ?k_l_order ?f_l_web ?l_l_web ?c_l_web ?k_l_web ?f_l_part ?l_l_part ?c_l_part ?k_l_part ?f_l_others ?l_l_others ?c_l_others ?k_l_others ?f_l_is ?l_l_is ?c_l_is ?k_l_is ?f_l_spoilt ?l_l_spoilt ?c_l_spoilt ?k_l_spoilt ?f_l_refused ?l_l_refused ?c_l_refused ?k_l_refused ?f_law ?l_law ?c_law ?k_law ?pg_Web ?hd_Web ?po_Web ?sa_Web ?mm_Web ?kc_Web ?n_Web__near ?xBadSize ?kBadSize ?bBadSize ?tBadSize ?xBadPoint ?kBadPoint ?bBadPoint ?tBadPoint ?xTwice ?kTwice ?bTwice ?tTwice ?xNoTie ?kNoTie ?bNoTie ?tNoTie ?xTooMany ?kTooMany ?bTooMany ?tTooMany ?hb_JoinError ?hdd_JoinError ?ht_JoinError ?su_BadSize_JoinError ?su_BadPoint_JoinError ?su_Twice_JoinError ?su_NoTie_JoinError ?su_TooMany_JoinError ?hn0 ?ht0 ?sd_BadSize ?st_BadSize ?ss_BadSize ?sd_BadPoint ?st_BadPoint ?ss_BadPoint ?sd_Twice ?st_Twice ?ss_Twice ?sd_NoTie ?st_NoTie ?ss_NoTie ?sd_TooMany ?st_TooMany ?ss_TooMany ?sd_NoTree ?st_NoTree ?ss_NoTree ?sd_BadTree ?st_BadTree ?ss_BadTree ?sd_BadText ?st_BadText ?ss_BadText ?eg_BadSize ?ek_BadSize ?ed_BadSize ?ea_BadSize ?em_BadSize ?is_BadSize_BadSize ?is_BadSize_BadPoint ?is_BadSize_Twice ?is_BadSize_NoTie ?is_BadSize_TooMany ?is_BadSize_NoTree ?is_BadSize_BadTree ?is_BadSize_BadText ?is_BadSize_ValueError ?eg_BadPoint ?ek_BadPoint ?ed_BadPoint ?ea_BadPoint ?em_BadPoint ?is_BadPoint_BadSize ?is_BadPoint_BadPoint ?is_BadPoint_Twice ?is_BadPoint_NoTie ?is_BadPoint_TooMany ?is_BadPoint_NoTree ?is_BadPoint_BadTree ?is_BadPoint_BadText ?is_BadPoint_ValueError ?eg_Twice ?ek_Twice ?ed_Twice ?ea_Twice ?em_Twice ?is_Twice_BadSize ?is_Twice_BadPoint ?is_Twice_Twice ?is_Twice_NoTie ?is_Twice_TooMany ?is_Twice_NoTree ?is_Twice_BadTree ?is_Twice_BadText ?is_Twice_ValueError ?eg_NoTie ?ek_NoTie ?ed_NoTie ?ea_NoTie ?em_NoTie ?is_NoTie_BadSize ?is_NoTie_BadPoint ?is_NoTie_Twice ?is_NoTie_NoTie ?is_NoTie_TooMany ?is_NoTie_NoTree ?is_NoTie_BadTree ?is_NoTie_BadText ?is_NoTie_ValueError ?eg_TooMany ?ek_TooMany ?ed_TooMany ?ea_TooMany ?em_TooMany ?is_TooMany_BadSize ?is_TooMany_BadPoint ?is_TooMany_Twice ?is_TooMany_NoTie ?is_TooMany_TooMany ?is_TooMany_NoTree ?is_TooMany_BadTree ?is_TooMany_BadText ?is_TooMany_ValueError ?ia_Web ?im_Web ?z_ValueError ?z_bool ?z_int ?z_isinstance ?z_len ?z_list ?z_max ?z_min ?z_range ?z_set ?z_sorted ?z_tuple ?v_MOST_POINTS
    (case h_c_BadPoint => k_is)
    (case h_c_BadSize => k_is)
    (case h_c_BadText => k_is)
    (case h_c_BadTree => k_is)
    (case h_c_JoinError => k_is)
    (case h_c_NoTie => k_is)
    (case h_c_NoTree => k_is)
    (case h_c_TooMany => k_is)
    (case h_c_Twice => k_is)
    (case h_c_Web => k_is)
    (case f_wall => k_is)
    (case l_wall => k_is)
    (case c_wall => k_is)
    (case k_wall => k_is)
    (case f_whole_within => k_is)
    (case l_whole_within => k_is)
    (case c_whole_within => k_is)
    (case k_whole_within => k_is)
    (case f_unlike_points => k_is)
    (case l_unlike_points => k_is)
    (case c_unlike_points => k_is)
    (case k_unlike_points => k_is)
    (case f_pairs => k_is)
    (case l_pairs => k_is)
    (case c_pairs => k_is)
    (case k_pairs => k_is)
    (case f_Web_init => k_is)
    (case i_Web_init => k_is)
    (case l_Web_init => k_is)
    (case c_Web_init => k_is)
    (case k_Web_init => k_is)
    (case f_Web_many => k_is)
    (case i_Web_many => k_is)
    (case l_Web_many => k_is)
    (case c_Web_many => k_is)
    (case k_Web_many => k_is)
    (case f_Web_has => k_is)
    (case i_Web_has => k_is)
    (case l_Web_has => k_is)
    (case c_Web_has => k_is)
    (case k_Web_has => k_is)
    (case f_Web_put => k_is)
    (case i_Web_put => k_is)
    (case l_Web_put => k_is)
    (case c_Web_put => k_is)
    (case k_Web_put => k_is)
    (case f_Web_take => k_is)
    (case i_Web_take => k_is)
    (case l_Web_take => k_is)
    (case c_Web_take => k_is)
    (case k_Web_take => k_is)
    (case f_Web_grow => k_is)
    (case i_Web_grow => k_is)
    (case l_Web_grow => k_is)
    (case c_Web_grow => k_is)
    (case k_Web_grow => k_is)
    (case f_Web_ties => k_is)
    (case i_Web_ties => k_is)
    (case l_Web_ties => k_is)
    (case c_Web_ties => k_is)
    (case k_Web_ties => k_is)
    (case f_Web_need_point => k_is)
    (case i_Web_need_point => k_is)
    (case l_Web_need_point => k_is)
    (case c_Web_need_point => k_is)
    (case k_Web_need_point => k_is)
    (case f_part => k_is)
    (case l_part => k_is)
    (case c_part => k_is)
    (case k_part => k_is)
    (case f_opposite => k_is)
    (case l_opposite => k_is)
    (case c_opposite => k_is)
    (case k_opposite => k_is)
    (case f_l_mixed => k_is)
    (case l_l_mixed => k_is)
    (case c_l_mixed => k_is)
    (case k_l_mixed => k_is)
    (case f_l_number => k_is)
    (case l_l_number => k_is)
    (case c_l_number => k_is)
    (case k_l_number => k_is)
    (case f_l_kind => k_is)
    (case l_l_kind => k_is)
    (case c_l_kind => k_is)
    (case k_l_kind => k_is)
    (case f_l_order => k_is)
    (case l_l_order => k_is)
    (case c_l_order => k_is)
    (case k_l_order => k_is)
    (case f_l_web => k_is)
    (case l_l_web => k_is)
    (case c_l_web => k_is)
    (case k_l_web => k_is)
    (case f_l_part => k_is)
    (case l_l_part => k_is)
    (case c_l_part => k_is)
    (case k_l_part => k_is)
    (case f_l_others => k_is)
    (case l_l_others => k_is)
    (case c_l_others => k_is)
    (case k_l_others => k_is)
    (case f_l_is => k_is)
    (case l_l_is => k_is)
    (case c_l_is => k_is)
    (case k_l_is => k_is)
    (case f_l_spoilt => k_is)
    (case l_l_spoilt => k_is)
    (case c_l_spoilt => k_is)
    (case k_l_spoilt => k_is)
    (case f_l_refused => k_is)
    (case l_l_refused => k_is)
    (case c_l_refused => k_is)
    (case k_l_refused => k_is)
    (case f_law => k_is)
    (case l_law => k_is)
    (case c_law => k_is)
    (case k_law => k_is)
    (case pg_Web => k_is)
    (case hd_Web => k_is)
    (case po_Web => k_is)
    (case sa_Web => k_is)
    (case mm_Web => k_is)
    (case kc_Web => k_is)
    (case n_Web__near => k_is)
    (case xBadSize => k_exc)
    (case kBadSize => k_is)
    (case bBadSize => k_is)
    (case tBadSize => k_is)
    (case xBadPoint => k_exc)
    (case kBadPoint => k_is)
    (case bBadPoint => k_is)
    (case tBadPoint => k_is)
    (case xTwice => k_exc)
    (case kTwice => k_is)
    (case bTwice => k_is)
    (case tTwice => k_is)
    (case xNoTie => k_exc)
    (case kNoTie => k_is)
    (case bNoTie => k_is)
    (case tNoTie => k_is)
    (case xTooMany => k_exc)
    (case kTooMany => k_is)
    (case bTooMany => k_is)
    (case tTooMany => k_is)
    (case hb_JoinError => k_is)
    (case hdd_JoinError => k_is)
    (case ht_JoinError => k_is)
    (case su_BadSize_JoinError => k_is)
    (case su_BadPoint_JoinError => k_is)
    (case su_Twice_JoinError => k_is)
    (case su_NoTie_JoinError => k_is)
    (case su_TooMany_JoinError => k_is)
    (case hn0 => k_is)
    (case ht0 => k_is)
    (case sd_BadSize => k_is)
    (case st_BadSize => k_is)
    (case ss_BadSize => k_is)
    (case sd_BadPoint => k_is)
    (case st_BadPoint => k_is)
    (case ss_BadPoint => k_is)
    (case sd_Twice => k_is)
    (case st_Twice => k_is)
    (case ss_Twice => k_is)
    (case sd_NoTie => k_is)
    (case st_NoTie => k_is)
    (case ss_NoTie => k_is)
    (case sd_TooMany => k_is)
    (case st_TooMany => k_is)
    (case ss_TooMany => k_is)
    (case sd_NoTree => k_is)
    (case st_NoTree => k_is)
    (case ss_NoTree => k_is)
    (case sd_BadTree => k_is)
    (case st_BadTree => k_is)
    (case ss_BadTree => k_is)
    (case sd_BadText => k_is)
    (case st_BadText => k_is)
    (case ss_BadText => k_is)
    (case eg_BadSize => k_is)
    (case ek_BadSize => k_is)
    (case ed_BadSize => k_is)
    (case ea_BadSize => k_is)
    (case em_BadSize => k_is)
    (case is_BadSize_BadSize => k_is)
    (case is_BadSize_BadPoint => k_is)
    (case is_BadSize_Twice => k_is)
    (case is_BadSize_NoTie => k_is)
    (case is_BadSize_TooMany => k_is)
    (case is_BadSize_NoTree => k_is)
    (case is_BadSize_BadTree => k_is)
    (case is_BadSize_BadText => k_is)
    (case is_BadSize_ValueError => k_is)
    (case eg_BadPoint => k_is)
    (case ek_BadPoint => k_is)
    (case ed_BadPoint => k_is)
    (case ea_BadPoint => k_is)
    (case em_BadPoint => k_is)
    (case is_BadPoint_BadSize => k_is)
    (case is_BadPoint_BadPoint => k_is)
    (case is_BadPoint_Twice => k_is)
    (case is_BadPoint_NoTie => k_is)
    (case is_BadPoint_TooMany => k_is)
    (case is_BadPoint_NoTree => k_is)
    (case is_BadPoint_BadTree => k_is)
    (case is_BadPoint_BadText => k_is)
    (case is_BadPoint_ValueError => k_is)
    (case eg_Twice => k_is)
    (case ek_Twice => k_is)
    (case ed_Twice => k_is)
    (case ea_Twice => k_is)
    (case em_Twice => k_is)
    (case is_Twice_BadSize => k_is)
    (case is_Twice_BadPoint => k_is)
    (case is_Twice_Twice => k_is)
    (case is_Twice_NoTie => k_is)
    (case is_Twice_TooMany => k_is)
    (case is_Twice_NoTree => k_is)
    (case is_Twice_BadTree => k_is)
    (case is_Twice_BadText => k_is)
    (case is_Twice_ValueError => k_is)
    (case eg_NoTie => k_is)
    (case ek_NoTie => k_is)
    (case ed_NoTie => k_is)
    (case ea_NoTie => k_is)
    (case em_NoTie => k_is)
    (case is_NoTie_BadSize => k_is)
    (case is_NoTie_BadPoint => k_is)
    (case is_NoTie_Twice => k_is)
    (case is_NoTie_NoTie => k_is)
    (case is_NoTie_TooMany => k_is)
    (case is_NoTie_NoTree => k_is)
    (case is_NoTie_BadTree => k_is)
    (case is_NoTie_BadText => k_is)
    (case is_NoTie_ValueError => k_is)
    (case eg_TooMany => k_is)
    (case ek_TooMany => k_is)
    (case ed_TooMany => k_is)
    (case ea_TooMany => k_is)
    (case em_TooMany => k_is)
    (case is_TooMany_BadSize => k_is)
    (case is_TooMany_BadPoint => k_is)
    (case is_TooMany_Twice => k_is)
    (case is_TooMany_NoTie => k_is)
    (case is_TooMany_TooMany => k_is)
    (case is_TooMany_NoTree => k_is)
    (case is_TooMany_BadTree => k_is)
    (case is_TooMany_BadText => k_is)
    (case is_TooMany_ValueError => k_is)
    (case ia_Web => k_is)
    (case im_Web => k_is)
    (case z_ValueError => k_is)
    (case z_bool => k_is)
    (case z_int => k_is)
    (case z_isinstance => k_is)
    (case z_len => k_is)
    (case z_list => k_is)
    (case z_max => k_is)
    (case z_min => k_is)
    (case z_range => k_is)
    (case z_set => k_is)
    (case z_sorted => k_is)
    (case z_tuple => k_is)
    (case v_MOST_POINTS => k_is)
