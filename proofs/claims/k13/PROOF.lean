import PyProof.Rows.All
import Wide.All
import OpenK.AllK
import Wide.FinOn
import HandS.ForMost
import HandS.Exc
import HandS.TryOnly
import HandS.ExcOwn
import HandS.WordsExc
import HandS.Evl
import HandS.IsInst
import HandS.ExcIs
import HandS.DictTup
import HandS.SortInts
import HandS.SortRule
import HandS.Wide
import HandS.More
import HandS.Walk
import HandS.Conv
import HandS.TupSets
import HandS.Deep
import KE.SortKeyHeap
import HandS.SortKw
import HandS.List
import PyProof.Rows.RegFStrParts
import HandS.RaiseMore
import KE.KRevSl
import HandS.Text
import HandS.DictComp
import PyProof.StrOps2
import HandS.Comp
import KE.DataMinKey
import HandS.FltList
import PyProof.SeqI3
import PyProof.Methods
import PyProof.ReprReads
import PyProof.ReprLen
import HandS.Set
import HandS.Strs
import HandS.Finally
import HandS.TupAny
import PyProof.EqAt
import PyProof.EqKinds
import PyProof.TupleCall
import Open.SpecLaws
import HandS.ForSpec
import HandS.ExcField
import KE.KExcIs
import KE.DataFind
import KE.DataMinMax
import PySem.Challenge.RW_joinside_k13_whole_kept
set_option Elab.async false
set_option maxRecDepth 100000
set_option maxHeartbeats 4000000
set_option linter.all false
namespace Jk
open PySem PySem.Spec PyProof.Rows L2

/-! ## an exception that is kept as a value behind its except suite -/
/-- an exception object of the class cls (own dict d) stands at a -/
def ExK (cls : Value) (d : Option Addr) (a : Addr) : HO := .ext fun h => ∃ (ob : Obj) (fv : Array Value), h.get? a = some ob ∧ Zc cls d ob ∧ ob.data = .fields fv
theorem exK_ok {P : Program} {w : World} {H : Hp} {h : Heap} {a : Addr} {cls : Value} {d : Option Addr} {ob : Obj} {fv : Array Value} (e : h.get? a = some ob) (z : Zc cls d ob) (dd : ob.data = .fields fv) : ObjOk P w H h a (ExK cls d a) :=
  ⟨⟨ob, fv, e, z, dd⟩, ⟨ob, e⟩, fun _ _ ⟨o1, v1, q1, r1⟩ kk => ⟨o1, v1, kk o1 q1, r1⟩⟩

section
variable {X : Cx} {pins : List (Addr × Obj)} {σ : L2.St} {H : Hp} {s : Shared}
/-- an untracked record of ours, new since the entry, is tracked from here on -/
theorem Inv.track {a : Addr} {ob : Obj} {o : HO} (I : Inv X pins σ H s) (ea : s.heap.get? a = some ob) (hn : H a = none) (new : X.s_0.heap.get? a = none) (hex : a ∉ X.ex)
    (nL : a ≠ X.env.locals) (nc : ∀ v, ob.data ≠ .cell v) (np : ∀ p ∈ X.pn ++ pins, p.1 ≠ a) (ok : ObjOk X.prog X.w (upd H a o) s.heap a o) : Inv X pins σ (upd H a o) s := by
  have neT : ∀ {b u}, H b = some u → b ≠ a := fun {b u} q z => by rw [z, hn] at q; cases q
  have neZ : ∀ {b u}, X.s_0.heap.get? b = some u → b ≠ a := fun {b u} q z => by rw [z, new] at q; cases q
  have old := I.base
  refine ⟨I.ok, I.os, I.bare, ⟨old.keep, old.slot, fun b u e1 e2 e3 => ?_, old.there, fun b xs e1 => ?_, fun b u v e1 => ?_, fun b ps e1 => ?_⟩, I.loc, I.cell, ?_, fun x c e1 => ?_, fun p hp => ?_, fun b u e1 => ?_, I.len⟩
  · rw [upd_ne (neZ e1)]; exact old.free b u e1 e2 e3
  · have q := old.tups b xs e1
    rw [upd_ne (neT q)]; exact q
  · have q := old.frzs b u v e1
    rw [upd_ne (neT q)]; exact q
  · obtain ⟨m, q⟩ := old.tbls b ps e1
    exact ⟨m, by rw [upd_ne (neT q)]; exact q⟩
  · rw [upd_ne (Ne.symm nL)]; exact I.free
  · have hc : c ≠ a := fun z => by
      obtain ⟨v, o', q, hd⟩ := I.cell x c e1
      rw [z, ea] at q; cases q
      exact nc v hd
    rw [upd_ne hc]; exact I.freeC x c e1
  · obtain ⟨p1, p2, p3⟩ := I.pin p hp
    exact ⟨p1, by rw [upd_ne (np p hp)]; exact p2, p3⟩
  · by_cases hb : b = a
    · subst hb
      rw [upd_same] at e1; cases e1
      exact ok
    · rw [upd_ne hb] at e1
      refine (I.hok b u e1).stay (fun c v _ q => q) (fun c q => ?_) fun c xs q => ?_
      · rw [upd_ne (neT q)]; exact q
      · rw [upd_ne (neT q)]; exact q
end

/-- what 'except x as n: suite' wishes, where the exception stays a value behind the suite: slot i is n's -/
def wKeep (K : PySem.W.Frag) (c : Value) (i : Nat) (ts : Addr → Value → Option Addr → TS) (Wout : WX) (D : Ends) : WX := fun cls d σ H =>
  ∃ b, PySem.W.exmOne K cls c = some b ∧
    (b = true → ∀ a, H a = none → ts a cls d { nx := fun σ' H' => H' a = none → D.nx (σ'.set i none) (upd H' a (ExK cls d a)), rt := fun _ _ => False, bk := fun _ _ => False, ct := fun _ _ => False } (σ.set i (some (.ref a))) H) ∧
    (b = false → Wout cls d σ H)

section
variable {X : Cx} {x n : Str} {c : Value} {i : Nat} {body suite : List Stmt} {b₀ : Stmt} {np pos pos' : Pos} {tb : WX → TS} {ts : Addr → Value → Option Addr → TS} {Wout : WX}
theorem ps_try_keep (hst : X.stack = X.env :: X.outer) (hfr : X.env.frame = some X.env.locals) (hex : X.ex = []) (hpn : X.pn = []) (hnd : X.N.Nodup) (hi : X.N[i]? = some n) (hln : X.env.kindOf n = some .local) (hc : Names X x c) (tk : Takes X Wout)
    (hb : ∀ (W : WX) (pn : List (Addr × Obj)) (xe : Value → Shared → Prop), Takes (X.tr pn xe) W → PassesOwn (model X.prog X.w) X.A X.env xe → PSs (X.tr pn xe) body (tb W))
    (hsu : ∀ (a : Addr) (oe : Obj) (cls : Value) (d : Option Addr) (pn : List (Addr × Obj)), Zc cls d oe → (∃ vs, oe.data = .fields vs) → PSs (X.suite a ((a, oe) :: pn)) (b₀ :: suite) (ts a cls d)) :
    PS X (.Try body [.ExceptHandler (some (.Name x np)) (some n) (b₀ :: suite) pos'] [] [] pos) (fun D σ H => tb (wKeep X.K c i ts Wout D) D σ H) := by
  refine ⟨fun pins s σ H D I h => ?_⟩
  have good := I.ok
  have hA : X.A.frames = some (X.env :: X.outer) := by rw [good.frames, hst]
  refine wpAny_Try_except ?_
  refine wpAny_mono ((hb (wKeep X.K c i ts Wout D) (X.pn ++ pins) (fun e s₁ => wpAny (model X.prog X.w) X.A (noteFrame e X.env) (fun _ s₂ => wpAny (model X.prog X.w) X.A (setFlight e none) (fun _ s₃ =>
    wpAny (model X.prog X.w) X.A (handleBy e X.env [.ExceptHandler (some (.Name x np)) (some n) (b₀ :: suite) pos']) (SP X pins D) X.xe s₃) X.xe s₂) X.xe s₁) (fun u s' xx => ?_) PassesOwn.looking).run [] s σ H D (I.toTry _) h) (fun f s1 hsp => ?_) (fun e s1 he => he)
  · obtain ⟨a, B, sI, pin1, σ1, H1, cls, d, rfl, J0, nb, up, sky, na, os, ag, b, hbx, hyes, hno⟩ := xx
    have J : Inv X pins σ1 H1 sI := J0.ofTry good
    have sk : Sky B (X.env :: X.outer) a (Zc cls d) X.env.locals s'.heap := by rw [← hst]; exact sky
    -- the exception is none of the entry's objects
    have sIa : sI.heap.get? a = none ∨ a ∈ frs X.stack := by
      cases q : sI.heap.get? a with
      | none => exact .inl rfl
      | some o =>
        by_cases hm : a ∈ frs X.stack
        · exact .inr hm
        · have z := nb a o q hm
          have Ba : B.get? a = none := by
            rcases sk with ⟨_, r, _⟩ | ⟨_, r, _⟩ | ⟨_, r, _⟩ <;> exact r
          rw [Ba] at z; cases z
    show wpAny (model X.prog X.w) X.A (noteFrame (.ref a) X.env) _ _ _
    refine Sky.land Zc.steady hA hfr sk fun h3 fl3 up3 => ?_
    have J3 : Inv X pins σ1 H1 { s' with heap := h3 } := J.landed nb fl3.1 (up.trans up3) os ag
    obtain ⟨oe3, vs3, he3, hz3, hd3⟩ := fl3.there
    have notFr : ∀ {g : Heap} {o : Obj} {vs : Array Value}, g.FunFrames B (X.env :: X.outer) → g.get? a = some o → o.data = .fields vs → a ∉ frs (X.env :: X.outer) := fun {g o vs} ff e dd hm => by
      obtain ⟨_, o', e', hnf⟩ := ff.mem hm
      rw [e] at e'; cases e'
      exact hnf _ dd
    have nfr := notFr fl3.2.2.1 he3 hd3
    have sIn : sI.heap.get? a = none := sIa.resolve_right (by rw [hst]; exact nfr)
    have new0 : X.s_0.heap.get? a = none := by
      cases q : X.s_0.heap.get? a with
      | none => rfl
      | some o =>
        obtain ⟨o', q'⟩ := J.base.there a o q (by rw [hex]; exact fun z => nomatch z)
        rw [sIn] at q'; cases q'
    have nL : a ≠ X.env.locals := fun z => nfr (List.mem_filterMap.mpr ⟨X.env, List.mem_cons_self, by rw [hfr, z]⟩)
    have nF : a ∉ X.fs := fun hm => by
      obtain ⟨e, he, q⟩ := List.mem_filterMap.mp hm
      exact nfr (List.mem_filterMap.mpr ⟨e, List.mem_cons_of_mem _ he, q⟩)
    have npin : ∀ p ∈ X.pn ++ pins, p.1 ≠ a := fun p hp z => by
      have q := (J.pin p hp).1
      rw [z, sIn] at q; cases q
    have S3 := J3.suite he3 hd3 na nL nF
    refine wpAny_handleBy_cons (codeAny_handlers_test ?_) (by intro q; cases q)
    have LT : PySem.W.Looks (model X.prog X.w) h3 (typeOf (.ref a)) cls := fun A Q E s k q => wpAny_typeOf_ref (k _ _ he3) (by rw [hz3.1]; exact q)
    have LM := PySem.W.exm_one (M := model X.prog X.w) (J3.kIn) LT hbx
    have test : ∀ {Q : Value → Shared → Prop} {E : Value → Shared → Prop}, Q c { s' with heap := h3 } → wpAny (model X.prog X.w) (X.A.mark (some (.ref a))) (eval (.Name x np) X.env) Q E { s' with heap := h3 } := fun {Q E} q => by
      obtain ⟨hg, hdbg, hm | ⟨hm, hv, hnn⟩⟩ := hc
      · exact ld_glob (X := X.suite a ((a, oe3) :: (X.pn ++ pins))) S3 hg hm q hdbg
      · exact ld_blt (X := X.suite a ((a, oe3) :: (X.pn ++ pins))) S3 hg hm hv q hnn hdbg
    refine test (LM.here ?_)
    cases b with
    | true =>
      refine codeAny_handlers_suite_as ?_
      refine HandSPX.lands_againZ fl3 fun h4 fl4 up4 => ?_
      have J4 : Inv X pins σ1 H1 { s' with heap := h4 } := J.landed nb fl4.1 ((up.trans up3).trans up4) os ag
      obtain ⟨oe4, vs4, he4, hz4, hd4⟩ := fl4.there
      have S4 := J4.suite he4 hd4 na nL nF
      refine store_ok (X := X.suite a ((a, oe4) :: (X.pn ++ pins))) (v := .ref a) S4 hnd hi (.inl hln) rfl (fun s5 S5 => ?_) (.inr hln)
      refine wpAny_mono ((hsu a oe4 cls d (X.pn ++ pins) hz4 ⟨_, hd4⟩).run [] s5 _ H1 _ S5 (hyes rfl a na)) (fun f s6 hsp => ?_) (fun _ _ z => False.elim z)
      cases f with
      | next =>
        obtain ⟨σ6, H6, S6, q6⟩ := hsp
        have pa := S6.pin (a, oe4) (List.mem_append_left _ List.mem_cons_self)
        have h6a : H6 a = none := pa.2.1
        have T6 : Inv X pins σ6 (upd H6 a (ExK cls d a)) s6 := Inv.track (S6.unsuite good) pa.1 h6a new0 (by rw [hex]; exact fun z => nomatch z) nL (fun v z => by rw [hd4] at z; cases z) npin (exK_ok pa.1 hz4 hd4)
        exact gone_ok T6 hnd hi hln fun s7 J7 => ⟨_, _, J7, q6 h6a⟩
      | brk =>
        obtain ⟨_, _, _, q6⟩ := hsp
        exact q6.elim
      | cont =>
        obtain ⟨_, _, _, q6⟩ := hsp
        exact q6.elim
      | ret u =>
        obtain ⟨_, _, _, _, _, q6⟩ := hsp
        exact q6.elim
    | false =>
      show wpAny _ X.A (handleBy (.ref a) X.env []) _ _ _
      refine wpAny_handleBy_nil ?_
      obtain ⟨k1, k2, k3, oe, vs, T, oT, ts', he, hz, hd, h1, hr⟩ := id fl3
      unfold PySem.passOn
      refine wpAny_bind (wpAny_field he hd h1 ?_)
      rw [if_neg (show ¬ ((Value.ref T == Value.none) = true) from by simp)]
      have fin : wpAny (model X.prog X.w) X.A (setFlight (.ref a) X.env.frame) (fun _ s4 => wpAny (model X.prog X.w) X.A (throw (.ref a) : Sem Flow) (SP X pins D) X.xe s4) X.xe { s' with heap := h3 } := by
        rw [hfr]
        refine HandSPX.setFlight_upZ fl3 fun h4 hh4 up4 => wpAny_throw (tk _ _ ?_)
        exact ⟨a, B, sI, pins, σ1, H1, cls, d, rfl, J, nb, (up.trans up3).trans up4, .inr (.inr (by rw [hst]; exact hh4)), na, os, ag, hno rfl⟩
      first
        | exact wpAny_bind (wpAny_pure (wpAny_bind fin))
        | exact wpAny_bind fin
  · cases f with
    | next =>
      obtain ⟨σ', H', J', q⟩ := hsp
      exact wpAny_execs_nil ⟨σ', H', J'.ofTry good, q⟩
    | brk =>
      obtain ⟨σ', H', J', q⟩ := hsp
      exact ⟨σ', H', J'.ofTry good, q⟩
    | cont =>
      obtain ⟨σ', H', J', q⟩ := hsp
      exact ⟨σ', H', J'.ofTry good, q⟩
    | ret u =>
      obtain ⟨v, σ', H', J', r, q⟩ := hsp
      exact ⟨v, σ', H', J'.ofTry good, r, q⟩
end

/-! ## isinstance of such a value -/
def rIsX (K : PySem.W.Frag) : List V → Hp → VK → Prop := fun xs H Q => ∃ (a D : Addr) (c : V) (cv : Value) (b : Bool), xs = [.ref a, c] ∧ H a = some (ExK (.ref D) none a) ∧ ExcC K D ∧ ClsV c cv ∧ PySem.W.kitOne K (.ref D) cv = some b ∧ Q (.bl b) H
theorem call_isX {X : Cx} : CallR X (.builtin "isinstance") (rIsX X.K) := by
  intro pins s σ H xs us Q I r h
  obtain ⟨a, D, c, cv, b, rfl, ha, C, hcv, e, q⟩ := h
  obtain ⟨u1, u2, rfl, r1, r2⟩ := vals2 r
  have e2 := hcv.eq r2
  subst e2
  cases r1
  obtain ⟨⟨ob, fv, hget, hz, hv⟩, _⟩ := I.hok a _ ha
  have J : PySem.W.InstAt s.heap a ob D none := by
    obtain ⟨oc, od, oda, osl⟩ := ob
    obtain ⟨h1, h2⟩ := hz
    dsimp only at h1 h2 hv
    subst h1 h2 hv
    exact ⟨hget, rfl, rfl, trivial⟩
  exact PySem.W.kia_one (PySem.W.handS_kitx_exc C.hg C.hk C.hs C.hd C.ha C.hn C.ht C.hm) I.kIn J e (fun z => nomatch z) fun tk => ⟨.bl b, H, I.kept (t' := tk) fun _ _ z => z, rfl, q⟩
end Jk

namespace Jk
open PySem PySem.Spec PyProof.Rows L2

/-! ## repr of data, where no repr is under way -/
theorem call_reprD {X : Cx} (hg : X.A.guards = some []) (hu : X.A.units + 64 < cLine) : CallR X (.builtin "repr") (fun xs H Q => ∃ (a : Addr) (d : PyData), xs = [.ref a] ∧ Dp X.K H (.ref a) d ∧ d.showable = true ∧ d.hasDict = false ∧ d.depth < 63 ∧ d.shown.length ≤ sizeLine ∧ Q (.str d.shown) H) := by
  intro pins s σ H xs us Q I r h
  obtain ⟨a, d, rfl, hd, h1, h2, h3, h4, q⟩ := h
  obtain ⟨u, rfl, ru⟩ := vals1 r
  obtain ⟨as, rd⟩ := Dp.reads I d _ _ hd ru
  cases ru
  exact PySem.repr_of_reads' rd h1 (fun z => absurd z (by rw [h2]; decide)) hg (by omega) (fun _ _ z => z) (fun h' u tk k => ⟨.str d.shown, H, I.kept (t' := tk) k, ⟨u, rfl⟩, q⟩) h4

/-! ## a def that is called where no repr is under way -/
structure FnG (P : Program) (w : World) (K : PySem.W.Frag) (mg : Str → Option Value) (base : Heap) (k : Nat) (f : Addr) (fd : FuncData) (ps : List Str) (sp : Sp) : Prop where
  many : ∀ vs H Q E, sp vs H Q E → vs.length = ps.length
  runs : ∀ (A : Around) (outer : List Env) (s : Shared) (H : Hp) (args : Args) (us : List Value) (vs : List V) (Q : VK) (E : XK), A.guards = some [] → Room k A → Env0 P w K mg base A outer s H → BindsTo s fd args (ps.zip us) →
    Vals vs us → sp vs H Q E → codeAny (model P w) A (.call (.ref f) args) (CR CX0 outer P w H s Q E) s
theorem guards_deeper {A : Around} {env : Env} (h : A.guards = some []) : (A.deeper env).guards = some [] := h
section
variable {P : Program} {w : World} {K : PySem.W.Frag} {mg : Str → Option Value} {base : Heap}
theorem _root_.L2.Fun.okG {x qual : Str} {st : Stmt} {f : Addr} {fd : FuncData} {N ps : List Str} {k : Nat} {sp : Sp} (F : Fun K x qual st f fd) (S : FnScope N ps (defScope st)) (many : ∀ vs H Q E, sp vs H Q E → vs.length = ps.length)
    (hb : ∀ (cdv : Value) (A : Around) (outer : List Env) (s : Shared) (H : Hp) (vs : List V) (Q : VK) (E : XK), A.guards = some [] → Room k (A.deeper (envOfC qual (defScope st) s.heap.objs.size f cdv)) → sp vs H Q E →
      ∃ t, PSs (cxOf CX0 P w K mg base N qual (defScope st) f cdv A outer s H E).nox (defBody st) t ∧ t { nx := fun _ H' => Q .non H', rt := Q } (L2.start N vs) H) : FnG P w K mg base (k + 1) f fd ps sp := by
  obtain ⟨oc, od, kV, doc, pm, an, cdv, ct, osl, rfl, lk, hcd⟩ := F.ex
  refine ⟨many, fun A outer s H args us vs Q E hg hr e0 hbi r hsp => ?_⟩
  have one : ∀ (sp1 : Sp), sp1 = (fun vs' H' Q' E' => vs' = vs ∧ H' = H ∧ Q' = Q ∧ E' = E) → True := fun _ _ => trivial
  have hl := many _ _ _ _ hsp
  have KX : K.In s.heap := e0.mod.kin.keeps fun b o e => (e0.bs b o e).1
  have lim : s.heap.NoLimit := e0.mod.nolimit.keeps fun b o e => (e0.bs b o e).1
  have kinds : ∀ y ∈ ps.zip us, (defScope st).names.lookup y.1 = some .local ∨ ((defScope st).names.lookup y.1 = some .cell ∧ ((cellsFrom (s.heap.objs.size + 1) (defScope st).names []).lookup y.1).isSome = true) := fun ⟨n, v⟩ hy => by
    rcases S.par n (List.of_mem_zip hy).1 with q | q
    · exact .inl q
    · exact .inr ⟨q, PySem.W.cellsFrom_some _ _ _ (.inl q)⟩
  refine codeAny_call_function hr.depth (KX _ _ lk) rfl S.co S.gen rfl (PySem.W.codeRec_of KX hcd) (hbi _ _ _ _ ?_)
  refine wpAny_newFunctionEnv_cells S.kind kinds fun env he s1 x => ?_
  subst he
  refine ⟨lim.keeps x.toInCall.keep, codeAny_func ?_⟩
  obtain ⟨t, ht, hq⟩ := hb cdv A outer s H vs Q E hg (hr.deeper _) hsp
  have I : Inv (cxOf CX0 P w K mg base N qual (defScope st) f cdv A outer s H E) [] (L2.start N vs) H s1 := inv_start S hr.hd e0 hl r x
  refine wpAny_mono (ht.nox.run [] s1 (L2.start N vs) H _ I hq) (fun fl s' hs => ?_) fun e s' hs => hs
  have fin : ∀ {σ' : L2.St} {H' : Hp} {v : V} {u : Value}, Inv (cxOf CX0 P w K mg base N qual (defScope st) f cdv A outer s H E) [] σ' H' s' → RelV v u → Q v H' → CE outer P w H s Q u s' :=
    fun {σ' H' v u} J rv q => ⟨v, H', J.os, J.bare, J.base, J.hok, rv, q⟩
  cases fl with
  | ret u =>
    obtain ⟨v, σ', H', J, rv, q⟩ := hs
    exact fin J rv q
  | next =>
    obtain ⟨σ', H', J, q⟩ := hs
    exact fin (v := V.non) (u := Value.none) J rfl q
  | brk =>
    obtain ⟨_, _, _, q⟩ := hs
    exact False.elim q
  | cont =>
    obtain ⟨_, _, _, q⟩ := hs
    exact False.elim q
end
section
variable {X : Cx} {k : Nat} {f : Addr} {fd : FuncData} {ps : List Str} {sp : Sp} {x : Str} {p pos : Pos} {e : Expr} {es : List Expr} {t : TA}
/-- f(..) of such a def -/
theorem pe_callG (F : FnG X.prog X.w X.K X.mg X.base k f fd ps sp) (hg0 : X.A.guards = some []) (hr : Room k X.A) (hg : Gl X x) (hm : X.mg x = some (.ref f)) (hk : PySem.W.keepIn X.K (.ref f) = true) (hb : Binds X.K fd ps [])
    (ha : PA X (e :: es) t) (hdb : (x == ("__debug__" : Str)) = false := by decide) (he : starEach (e :: es) X.env = (false, eval e X.env) :: starEach es X.env := by rfl) (hpl : (backTo pos (starEach es X.env)).any (·.1) = false := by rfl) :
    PE X (.Call (.Name x p) (e :: es) [] pos) (tCall sp [] E0 t) := by
  refine ⟨fun pins s σ H Q I h => ?_⟩
  refine wpAny_Call_Name_kw (ld_glob I hg hm ?_ hdb)
  refine PySem.W.callWith_K (h₀ := X.base) I.ok.mod.kin hk (thn (ha.run pos pins s σ H _ I h) fun us s1 ⟨vs, H1, I1, r, q⟩ => ⟨I1.kIn, ?_⟩) he hpl
  have q : sp vs H1 Q E0 := by have z := q; simp only [List.append_nil] at z; exact z
  have hl : (us ++ []).length = ps.length := by rw [List.append_nil, ← r.length]; exact F.many _ _ _ _ q
  have bt := hb s1 us I1.kIn hl
  rw [List.append_nil] at bt
  refine wpAny_call (codeAny_mono (F.runs X.A X.stack s1 H1 ⟨us, []⟩ us vs Q E0 hg0 hr I1.env0 bt r q) fun r s' hq => ?_)
  cases r with
  | error e => exact False.elim hq
  | ok fl =>
    cases fl with
    | ret u => exact I1.after hq
    | next => exact False.elim hq
    | brk => exact False.elim hq
    | cont => exact False.elim hq
end

/-! ## the law's own call, where its def is one of these -/
section
variable {P : Program} {w : World} {K : PySem.W.Frag} {mg mb : Str → Option Value} {k : Nat} {fa a : Addr} {fd : FuncData} {x : Str} {sp : Sp} {z : Shared} {vs : List Value} {ns : List Int}
theorem law_callG (kin : K.In z.heap) (gl : z.heap.Ns mainGlobals mg) (bl : z.heap.Ns builtinsNs mb) (bb : ∀ y : Str, y ≠ "__name__" → mb y = bootBuiltins y) (lim : z.heap.NoLimit) (gens : z.gens = #[])
    (there : z.heap.get? a = some { cls := .type "list", data := .seq vs.toArray }) (hint : IntsAre vs ns) (few : ns.length ≤ sizeLine) (room : Room k callerA)
    (F : ∀ base : Heap, K.In base → base.Ns mainGlobals mg → FnG P w K mg base k fa fd [x] sp) (bind : ∀ (s : Shared) (u : Value), BindsTo s fd ⟨[u], []⟩ [(x, u)])
    (asked : ∀ H : Hp, Only H → SqL K H a (ns.map V.int) → sp [.ref a] H (fun v _ => v = .bl true) fun _ _ _ => False) :
    codeAny (model P w) callerA (.call (.ref fa) ⟨[.ref a], []⟩) (fun r s' => r = .ok (.ret (.bool true)) ∧ OldK z.heap s'.heap ∧ s'.os = z.os ∧ AllBare s'.gens) z := by
  have rel := vals_ints hint
  have len := hint.length
  have core : ∀ G : Hp, Only G → SqL K G a (ns.map V.int) → HOk P w G z.heap → (∀ b, G b ≠ none → b = a) → (G a ≠ none → K.lookup a = none) →
      codeAny (model P w) callerA (.call (.ref fa) ⟨[.ref a], []⟩) (fun r s' => r = .ok (.ret (.bool true)) ∧ OldK z.heap s'.heap ∧ s'.os = z.os ∧ AllBare s'.gens) z := by
    intro G only sql gok onlyA noK
    have dictFree : ∀ {b : Addr} {u : Obj} {es : Array DictEntry} {ep : Nat}, z.heap.get? b = some u → u.data = .dict es ep → G b = none := fun {b u es ep} e1 e2 => by
      cases q : G b with
      | none => rfl
      | some v =>
        obtain rfl : b = a := onlyA b (by rw [q]; simp)
        rw [there] at e1; cases e1
        have e3 : Data.seq vs.toArray _ = Data.dict es ep := e2
        cases e3
    have nsHid : ∀ {b : Addr} {m : Str → Option Value}, z.heap.Ns b m → (hidT z.heap G).Ns b m := fun {b m} ⟨u, es, ep, e1, e2, e3⟩ => ⟨u, es, ep, hidT_get e1 (dictFree e1 e2), e2, e3⟩
    have kinHid : K.In (hidT z.heap G) := fun b u e1 => hidT_get (kin b u e1) (by
      cases q : G b with
      | none => rfl
      | some v =>
        obtain rfl : b = a := onlyA b (by rw [q]; simp)
        rw [noK (by rw [q]; simp)] at e1; cases e1)
    have modul : Mod K mg (hidT z.heap G) := ⟨kinHid, nsHid gl, ⟨mb, nsHid bl, bb⟩, let ⟨mc, l1, l2⟩ := lim; ⟨mc, nsHid l1, l2⟩⟩
    have env0 : Env0 P w K mg (hidT z.heap G) callerA [] z G := ⟨rfl, modul, fun b u e1 => of_hidT e1, Nat.le_of_eq (hidT_size _ _), trivial, fun b hb => absurd (show b ∈ ([] : List Addr) from hb) (by simp), gok, .of_eq gens⟩
    refine codeAny_mono ((F _ kinHid (nsHid gl)).runs callerA [] z G ⟨[.ref a], []⟩ [.ref a] [.ref a] _ _ rfl room env0 (bind z (.ref a)) (.cons rfl .nil) (asked G only sql)) fun r s' hh => ?_
    cases r with
    | error e => exact False.elim hh
    | ok fl =>
      cases fl with
      | next => exact False.elim hh
      | brk => exact False.elim hh
      | cont => exact False.elim hh
      | ret u =>
        obtain ⟨v, G', os1, bare1, un1, gok', rv, qv⟩ := hh
        obtain rfl : v = .bl true := qv
        obtain rfl : u = Value.bool true := rv
        refine ⟨rfl, OldK.of_keep fun b u e1 => ?_, os1, bare1⟩
        cases q : G b with
        | none => exact un1.keep b u e1 q (by intro y; exact absurd (show b ∈ ([] : List Addr) from y) (by simp)) (by simp)
        | some v =>
          rcases only b with y | ⟨ob, xs, y⟩
          · rw [q] at y; cases y
          · obtain ⟨g1, _⟩ := gok b _ y
            obtain ⟨g2, _⟩ := gok' b _ (un1.frzs b ob _ y)
            rw [e1] at g1; cases g1
            exact g2
  cases hk : K.lookup a with
  | some u =>
    have e1 := kin a u hk
    rw [there] at e1
    cases e1
    exact core (fun _ => none) (fun _ => .inl rfl) (.inr ⟨_, vs.toArray, _, hk, rfl, rfl, rfl, by rw [List.size_toArray, len]; exact few, by simpa using rel⟩) (fun b v y => nomatch (show (none : Option HO) = some v from y)) (fun b y => absurd rfl y) fun y => absurd rfl y
  | none =>
    refine core (fun b => if b = a then some (.frz { cls := .type "list", data := .seq vs.toArray } (.lst (ns.map V.int))) else none) (fun b => ?_) (.inl (.inr ⟨{ cls := .type "list", data := .seq vs.toArray }, if_pos rfl⟩)) (fun b v y => ?_) (fun b y => ?_) fun _ => hk
    · by_cases hb : b = a
      · exact .inr ⟨_, _, if_pos hb⟩
      · exact .inl (if_neg hb)
    · by_cases hb : b = a
      · have y' := (if_pos hb).symm.trans y
        cases y'
        subst hb
        exact ⟨there, by rw [List.length_map]; exact few, vs, _, rel, there⟩
      · have y' := (if_neg hb).symm.trans y
        cases y'
    · by_cases hb : b = a
      · exact hb
      · exact absurd (if_neg hb) y
end
theorem walk_ofG {l : PySem.W.OpenLaw} {n k : Nat} {q : Program} {loose : List Str} {XP : (Str → Option Value) → Heap → Prop} {YP : World → Heap → Prop} {d : DefRec} {K : Params → PySem.W.Frag} {sp : PySem.W.Frag → Sp} {x : Str}
    (most : l.most = some n) (few : n ≤ sizeLine) (nodef : d.params.defaults = []) (room : Room k callerA) (hY : ∀ (w : World) (h : Heap), YP w h → (K w.params).In h)
    (F : ∀ (w : World) (mg : Str → Option Value) (fa : Addr) (h : Heap), (K w.params).In h → h.Ns mainGlobals mg → mg d.name = some (.ref fa) →
      ∃ fd : FuncData, (∀ (s : Shared) (u : Value), BindsTo s fd ⟨[u], []⟩ [(x, u)]) ∧ ∀ base : Heap, (K w.params).In base → base.Ns mainGlobals mg → FnG l.prog w (K w.params) mg base k fa fd [x] (sp (K w.params)))
    (asked : ∀ (K : PySem.W.Frag) (H : Hp) (a : Addr) (ns : List Int), ns.length ≤ n → Only H → SqL K H a (ns.map V.int) → sp K [.ref a] H (fun v _ => v = .bl true) fun _ _ _ => False) :
    PySem.W.WalkO q loose XP YP l.row.toRowW d [] (fun f vs => PySem.call f vs) := by
  refine Att.attach_call most nodef fun w s₀ s₁ mg mb fa o pm cd doc a vs ns G Y ho hd hcd hmg hobj hints hlen hg => ?_
  obtain ⟨fd, b1, b2⟩ := F w mg fa _ (hY w _ Y) G.T.g hmg
  exact law_callG (hY w _ Y) G.T.g G.T.b G.T.builtins G.T.nolimit hg hobj hints (Nat.le_trans hlen few) room b2 b1 fun H hO hS => asked (K w.params) H a ns hlen hO hS

/-! ## methods and new objects whose refusal is wished for at the caller's slots -/
section
variable {X : Cx} {CX : CXT} {k : Nat} {f C : Addr} {fd : FuncData} {ps : List Str} {sp : Sp} {E : L2.St → XK} {x m : Str} {p pos apos : Pos} {e o : Expr} {es : List Expr} {ta : TE} {t : TA}
def jMethS (C : Addr) (m : Str) (sp : Sp) (E : L2.St → XK) (ta : TE) (t : TA) : TE := fun σ H Q => ta σ H fun x H1 => ∃ a dx fs, x = .ref a ∧ H1 a = some (.ins C dx fs) ∧ fs.lookup m = none ∧ t σ H1 fun vs H2 => sp (x :: vs) H2 Q (E σ)
theorem pe_methJ {pl : Sem Bool} (ho : PE X o ta) (cls : Cls X.K C) (met : Meth X.K C m f) (F : FnOk X.prog X.w X.K X.mg X.base CX k f fd ps sp) (room : Room k X.A) (bnd : L2.Binds X.K fd ps []) (hx : ∀ σ, PassesAt CX X σ (E σ)) (ha : PA X (e :: es) t)
    (h1 : starEach (e :: es) X.env = (false, eval e X.env) :: starEach es X.env := by rfl) (h2 : (backTo pos (starEach es X.env)).any (·.1) = false := by rfl)
    (h3 : eval (.Call (.Attribute o m apos) (e :: es) [] pos) X.env = (do
      let ov ← eval o X.env
      standAt apos.atName
      let (f, first) ← holding [ov] (getMethod ov m pl)
      callWith pos f first (backTo pos (starEach (e :: es) X.env)) (backToKw pos (keywordEach [] X.env))) := by rfl) :
    PE X (.Call (.Attribute o m apos) (e :: es) [] pos) (jMethS C m sp E ta t) := by
  refine ⟨fun pins s σ H Q I q => PySem.W.methodCall_KW (pl := pl) (thn (ho.run pins s σ H _ I q) fun u s1 ⟨y, H1, I1, ry, a, dx, fs, ey, at1, nof, q1⟩ => ?_) h3⟩
  subst ey
  obtain rfl : u = Value.ref a := ry
  refine getmeth_ok I1 at1 cls met nof (PySem.W.callWith_K (first := [.ref a]) (h₀ := X.base) I.ok.mod.kin met.kp (thn (ha.run pos pins s1 σ H1 _ I1 q1) fun us s2 ⟨vs, H2, I2, rv, q2⟩ => ⟨I2.kIn, ?_⟩) h1 h2)
  exact run_fnS (us := .ref a :: us) (vs := .ref a :: vs) F room bnd (hx σ) I2 (.cons rfl rv) q2
def jMakeS (C : Addr) (sp : Sp) (E : L2.St → XK) (t : TA) : TE := fun σ H Q => t σ H fun vs H1 => ∀ x dx, H1 x = none → H1 dx = none → dx ≠ x →
  sp (.ref x :: vs) (upd (upd H1 dx (.own x)) x (.ins C dx [])) (fun v H2 => v = .non ∧ Q (.ref x) H2) (E σ)
theorem pe_makeJ (M : Mk X.K C f) (F : FnOk X.prog X.w X.K X.mg X.base CX k f fd ps sp) (room : Room (k + 1) X.A) (hg : Gl X x) (hm : X.mg x = some (.ref C)) (bnd : L2.Binds X.K fd ps []) (hx : ∀ σ, PassesAt CX X σ (E σ))
    (ha : PA X (e :: es) t) (hdb : (x == ("__debug__" : Str)) = false := by decide) (h1 : starEach (e :: es) X.env = (false, eval e X.env) :: starEach es X.env := by rfl) (h2 : (backTo pos (starEach es X.env)).any (·.1) = false := by rfl) :
    PE X (.Call (.Name x p) (e :: es) [] pos) (jMakeS C sp E t) := by
  refine ⟨fun pins s σ H Q I q => wpAny_Call_Name_kw (ld_glob I hg hm ?_ hdb)⟩
  refine PySem.W.callWith_K (h₀ := X.base) I.ok.mod.kin M.kp (thn (ha.run pos pins s σ H _ I q) fun us s1 ⟨vs, H1, I1, r, q1⟩ => ⟨I1.kIn, ?_⟩) h1 h2
  show wpAny _ _ (call (.ref C) us) _ _ s1
  have hq := q1 (s1.heap.objs.size + 1) s1.heap.objs.size (I1.hok.fresh (Nat.le_succ _)) (I1.hok.fresh (Nat.le_refl _)) (Nat.ne_of_lt (Nat.lt_succ_self _))
  have J := Inv.made (C := C) I1
  have rr : Vals (V.ref (s1.heap.objs.size + 1) :: vs) (Value.ref (s1.heap.objs.size + 1) :: us) := .cons rfl r
  have hl : (Value.ref (s1.heap.objs.size + 1) :: us ++ []).length = ps.length := by
    rw [List.append_nil, ← rr.length]
    exact F.len _ _ _ _ hq
  have bt := bnd _ (Value.ref (s1.heap.objs.size + 1) :: us) J.kIn hl
  rw [List.append_nil] at bt
  refine wpAny_call (make_map (f := f) I1.kIn M.makes M.init (beq_iff_eq.mp M.fn) (codeAny_mono (F.run _ X.stack _ _ ⟨Value.ref (s1.heap.objs.size + 1) :: us, []⟩ (Value.ref (s1.heap.objs.size + 1) :: us) _ _ (E σ) (room.make C us []) (J.env0.make C us []) bt rr hq) fun r s' hq' => ?_))
  cases r with
  | error e => exact hx σ pins _ _ e s' J hq'
  | ok fl =>
    cases fl with
    | ret u =>
      obtain ⟨v, H', I3, rv, ev, q3⟩ := J.after hq'
      subst ev
      exact ⟨rv, ⟨V.ref (s1.heap.objs.size + 1), H', I3, rfl, q3⟩⟩
    | next => exact False.elim hq'
    | brk => exact False.elim hq'
    | cont => exact False.elim hq'
end
end Jk

namespace Jk
open PySem PySem.Spec PyProof.Rows L2

/-! ## sorted(d), d a dict whose keys are pairs of ints -/
section
variable {prog : Program} {w : World}
/-- the keys of a dict as it lies -/
theorem rawSrc {d : Addr} {o : Obj} {es : Array DictEntry} {ep : Nat} (lo : (d == sysModules) = false) (hx : o.ExactDict) (hd : o.data = .dict es ep) :
    PySem.W.KdlSrc prog w "dict" d d es.size (fun i v => ∃ en, es[i]? = some en ∧ v = en.key) (fun h => h.get? d = some o) where
  type := fun _ e => ⟨o, e, hx.1⟩
  there := fun _ e => ⟨Heap.lt_size e, Heap.lt_size e⟩
  keep := fun _ _ e k => k d (.inl rfl) o e
  notList := by decide
  notTuple := by decide
  hint := fun _ _ _ _ e q => PySem.W.kdl_hint_dict ⟨o, e, hx.1⟩ q
  iter := fun A s hh e => ⟨{ cls := .type "dict_keyiterator", data := .fields #[.ref d, .int 0 0, .int es.size 0, .int ep 0] }, fun i h => h.IsKeyIter s.heap.objs.size d i es.size ep ∧ h.get? d = some o,
    (fun _ _ hq => iter_keys lo e hx hd hq),
    { sub := fun b hb => by simp at hb; simp [hb]
      frame := fun _ _ _ st k => ⟨st.1.at fun o' e' => k _ (by simp) o' e', k d (by simp) o st.2⟩
      item := fun i s' Q E hi st hQ => by
        have hen : es[i]? = some es[i] := Array.getElem?_eq_getElem hi
        refine next_key_item st.1 st.2 hd rfl hen fun h' hit' hs' => ?_
        have ne : d ≠ s.heap.objs.size := Nat.ne_of_lt (Heap.lt_size e)
        exact hQ _ h' s'.toks ⟨_, hen, rfl⟩ ⟨hit', (hs'.2 d ne).trans st.2⟩ fun b o' hb e' => (hs'.2 b (fun z => hb (by simp [z]))).trans e'
      done := fun s' Q E st hQ => next_key_end hh st.1 st.2 hd rfl (Nat.le_refl _) fun h' he' => hQ h' s'.toks fun b o' hb e' => he' b o' (fun z => hb (by simp [z])) e'
      self := fun i s' Q E st hQ => wpAny_pyIter_keyiter st.1 hQ },
    ⟨⟨_, Heap.get?_push_size _ rfl, rfl, rfl⟩, Heap.get?_push_of_some _ e⟩⟩
end
/-- the pair that a value stands for -/
def pairAt (H : Hp) : Value → Int × Int
  | .ref q => match H q with
    | some (.tup [.int i, .int j]) => (i, j)
    | _ => (0, 0)
  | _ => (0, 0)
def keyP (p : Int × Int) : List Key := [Sum.inl p.1, Sum.inl p.2]
theorem keyP_inj {p q : Int × Int} (h : keyP p = keyP q) : p = q := by
  obtain ⟨a, b⟩ := p
  obtain ⟨c, d⟩ := q
  simp [keyP] at h
  simp [h.1, h.2]
theorem keyP_at {H : Hp} {q : Addr} {p : Int × Int} (h : H q = some (.tup ((keyP p).map kV))) : pairAt H (.ref q) = p := by
  have h' : H q = some (.tup [.int p.1, .int p.2]) := h
  simp [pairAt, h']
def lexLe (p q : Int × Int) : Prop := p.1 < q.1 ∨ (p.1 = q.1 ∧ p.2 ≤ q.2)
theorem paired_ix {α β : Type} {F : α → β → Prop} : ∀ {l : List α} {m : List β}, Paired F l m → ∀ (j : Nat) (y : β), m[j]? = some y → ∃ x, l[j]? = some x ∧ F x y
  | _, _, .nil, j, y, h => by simp at h
  | _, _, .cons f t, 0, y, h => by simp at h; subst h; exact ⟨_, rfl, f⟩
  | _, _, .cons f t, j + 1, y, h => by
    obtain ⟨x, h1, h2⟩ := paired_ix t j y (by simpa using h)
    exact ⟨x, by simpa using h1, h2⟩
def rSortDT : List V → Hp → VK → Prop := fun xs H Q => ∃ (a : Addr) (kvs : List (List Key × V)) (ps : List (Int × Int)), xs = [.ref a] ∧ H a = some (.dT kvs) ∧ kvs.map (·.1) = ps.map keyP ∧
  ∀ (qs : List (Addr × (Int × Int))) (D : Addr), (qs.map (·.2)).Perm ps → (qs.map (·.2)).Pairwise lexLe → (∀ q ∈ qs, H q.1 = some (.tup [.int q.2.1, .int q.2.2])) → H D = none → Q (.ref D) (upd H D (.lst (qs.map fun q => .ref q.1)))
theorem srtd_pairs {k : Value → Int × Int} {out : List Value} (h : SrtO.Srtd (fun v u => SrtO.lexB (k v) (k u)) out) : (out.map k).Pairwise lexLe := by
  rw [List.pairwise_map]
  refine List.Pairwise.imp ?_ h
  intro a b hab
  have z := SrtO.lexB_no.mp hab
  unfold lexLe
  omega
theorem call_sortedDT {X : Cx} (hc : X.calm = true) : CallR X (.builtin "sorted") rSortDT := by
  intro pins s σ H xs us Q I r h
  obtain ⟨a, kvs, ps, rfl, ha, hks, q⟩ := h
  obtain ⟨u, rfl, ru⟩ := vals1 r
  cases ru
  obtain ⟨hz, lo, ks, rel, o, es, ep, ho, hx, hd, hes, his, hnd⟩ := dt_of I.hok ha
  have hsz : es.size = kvs.length := by
    have z := congrArg List.length hes
    rw [List.length_map, Array.length_toList] at z
    rw [z, Paired.length rel]
  refine Calls.call_function_entry PyProof.Rows.kind_sorted PyProof.Rows.plain_sorted PyProof.Rows.entry_sorted (PyProof.Rows.args_sorted1 _) ?_
  unfold Builtin.«sorted»
  refine wpAny_bind (m := checkCount "sorted" 1 1 _) (wpAny_pure ?_)
  refine wpAny_bind (PySem.W.kdu_collect (A := X.A.in1) (rawSrc lo hx hd) (I.ok.hd hc) ho (by rw [hsz]; exact hz) fun h' tk acc hk hacc => ?_)
  have hkey : ∀ (j : Nat) (v : Value), acc.toList[j]? = some v → ∃ (p : Int × Int) (t : Addr), ps[j]? = some p ∧ v = .ref t ∧ H t = some (.tup ((keyP p).map kV)) := fun j v e => by
    obtain ⟨en, e1, rfl⟩ := hacc.2 j v (by rw [← Array.getElem?_toList]; exact e)
    have e2 : (ks.map (entryOfKey (tupleKind (mixKind X.prog X.w))))[j]? = some en := by rw [← hes, Array.getElem?_toList]; exact e1
    rw [List.getElem?_map] at e2
    cases e3 : ks[j]? with
    | none => rw [e3] at e2; cases e2
    | some y =>
      rw [e3] at e2
      obtain rfl : entryOfKey (tupleKind (mixKind X.prog X.w)) y = en := Option.some.inj e2
      obtain ⟨x, g1, g2, g3, _⟩ := paired_ix rel j y e3
      have g4 : (kvs.map (·.1))[j]? = some x.1 := by rw [List.getElem?_map, g1]; rfl
      rw [hks, List.getElem?_map] at g4
      cases g5 : ps[j]? with
      | none => rw [g5] at g4; cases g4
      | some p =>
        rw [g5] at g4
        have g6 : keyP p = x.1 := Option.some.inj g4
        exact ⟨p, y.2.1, rfl, rfl, by rw [g6]; exact g3⟩
  have hlen : acc.toList.length = ps.length := by
    have z := congrArg List.length hks
    rw [List.length_map, List.length_map] at z
    rw [Array.length_toList, hacc.1, hsz, z]
  have hmap : acc.toList.map (pairAt H) = ps := by
    refine List.ext_getElem? fun j => ?_
    rw [List.getElem?_map]
    cases e : acc.toList[j]? with
    | none =>
      have e' : ps[j]? = none := by
        rw [List.getElem?_eq_none_iff] at e ⊢
        omega
      rw [e']; rfl
    | some v =>
      obtain ⟨p, t, e1, rfl, e2⟩ := hkey j v e
      rw [e1]
      show some (pairAt H (.ref t)) = some p
      rw [keyP_at e2]
  have hmem : ∀ v ∈ acc.toList, ∃ t, v = .ref t ∧ H t = some (.tup [.int (pairAt H v).1, .int (pairAt H v).2]) := fun v hv => by
    obtain ⟨j, hj, e⟩ := List.mem_iff_getElem.mp hv
    obtain ⟨p, t, _, rfl, e2⟩ := hkey j v (by rw [List.getElem?_eq_getElem hj, e])
    refine ⟨t, rfl, ?_⟩
    rw [keyP_at e2]
    exact e2
  have I1 : Inv X pins σ H { s with heap := h', toks := tk } := I.kept hk
  have hfit : acc.toList.length ≤ sizeLine := by rw [Array.length_toList, hacc.1, hsz]; exact hz
  refine wpAny_bind (wpAny_newList ?_ hfit)
  have hoL : (h'.push (seqObj "list" acc.toList.toArray 0)).get? h'.objs.size = some (seqObj "list" acc.toList.toArray 0) := Heap.get?_push_size _ rfl
  show wpAny _ _ _ _ _ { s with heap := h'.push (seqObj "list" acc.toList.toArray 0), toks := tk }
  have hpair : ∀ v ∈ acc.toList, Srt.IsPair (h'.push (seqObj "list" acc.toList.toArray 0)) v (pairAt H v).1 (pairAt H v).2 := fun v hv => by
    obtain ⟨t, ev, ht⟩ := hmem v hv
    obtain ⟨_, its, rv, ob, hob, hcl, n, hdt⟩ := I1.hok t _ ht
    obtain ⟨u1, u2, rfl, ri, rj⟩ := vals2 rv
    obtain ⟨t1, rfl⟩ := ri
    obtain ⟨t2, rfl⟩ := rj
    exact ⟨t, ob, t1, t2, n, ev, Heap.get?_push_of_some _ hob, hcl, hdt⟩
  refine wpAny_bind (wpAny_holding (wpAny_call_entry PyProof.Rows.slot_list_sort ⟨_, hoL, rfl⟩ PyProof.Rows.entry_list_sort
    (SrtO.list_sort_ord (s := { s with heap := h'.push (seqObj "list" acc.toList.toArray 0), toks := tk }) (SrtO.swo_lex (pairAt H)) hoL hfit (fun h2 => SrtO.pairs_sortableO (by omega) hpair fun ob e c => ?_) fun out g1 g2 => ⟨_, rfl, ?_⟩) (PyProof.Rows.args_list_sort _)))
  · have e' := e.symm.trans hoL
    cases e'
    exact absurd (Value.type.inj c) (by decide)
  · obtain ⟨e', he'⟩ := PyProof.Rows.sortedHeap_at (vs := acc.toList) (out := out.toArray) hoL
    have hout : ∀ v ∈ out, ∃ t, v = .ref t ∧ H t = some (.tup [.int (pairAt H v).1, .int (pairAt H v).2]) := fun v hv => hmem v (g2.perm.mem_iff.mp hv)
    have hol : out.length = acc.toList.length := g2.perm.length_eq
    let adr : Value → Addr := fun v => match v with | .ref t => t | _ => 0
    have hvals : Vals (out.map fun v => V.ref (adr v)) out := by
      have gen : ∀ l : List Value, (∀ v ∈ l, ∃ t, v = Value.ref t) → Vals (l.map fun v => V.ref (adr v)) l := by
        intro l
        induction l with
        | nil => intro _; exact .nil
        | cons v l ih =>
          intro hl
          obtain ⟨t, rfl⟩ := hl v List.mem_cons_self
          exact .cons rfl (ih fun u hu => hl u (List.mem_cons_of_mem _ hu))
      exact gen out fun v hv => let ⟨t, e, _⟩ := hout v hv; ⟨t, e⟩
    have fin := q (out.map fun v => (adr v, pairAt H v)) h'.objs.size (by
        rw [List.map_map]
        show (out.map fun v => pairAt H v).Perm ps
        rw [← hmap]
        exact g2.perm.map _) (by
        rw [List.map_map]
        exact srtd_pairs g1) (fun z hz' => by
        obtain ⟨v, hv, rfl⟩ := List.mem_map.mp hz'
        obtain ⟨t, rfl, ht⟩ := hout v hv
        exact ht) (I1.hok.fresh (Nat.le_refl _))
    rw [List.map_map] at fin
    refine wpAny_pure ⟨_, rfl, .ref h'.objs.size, upd H h'.objs.size (.lst (out.map fun v => V.ref (adr v))), I1.laid (t' := tk) (fun b u e => ?_) (Nat.le_refl _)
      (show ObjOk X.prog X.w _ _ _ (.lst (out.map fun v => V.ref (adr v))) from ⟨by rw [List.length_map, hol]; exact hfit, out, e', hvals, he'⟩), rfl, fin⟩
    have hb : b < h'.objs.size := Heap.lt_size e
    rw [PyProof.Rows.sortedHeap_old (Nat.ne_of_lt hb) (by rw [size_push']; exact Nat.lt_succ_of_lt hb)]
    exact Heap.get?_push_of_some _ e

/-! ## d.pop(k), k a tuple that is there -/
section
variable {prog : Program} {w : World} {K : Type} [DecidableEq K] {knd : HeapKind prog w K}
theorem meetsPop1 {d b : Addr} {k : K} (lo : (d == sysModules) = false) :
    MeetsIn prog w (Builtin.«dict.pop» ⟨[.ref d, .ref b], []⟩) (fun A R s => ∃ xs p, knd.room A.in1 ∧ knd.is s.heap k b ∧ s.heap.DictOfH knd d xs ∧ xs.length ≤ sizeLine ∧ atKey xs k = some p ∧
      ∀ h' tk, h'.DictOfH knd d (DT.dropH xs k) → Heap.SameBut d s.heap h' → R (.ok (.ret p.2)) { s with heap := h', toks := tk }) :=
  .of_wp fun A R s ⟨xs, p, room, key, dict, few, found, fin⟩ => by
    obtain ⟨o, es, ep, ho, hc, hdat, he, his, hn⟩ := id dict
    have hes : es.size = xs.length := size_of_entries he
    have hpart : (keyPart (Value.ref b)).isSome = false := rfl
    unfold Builtin.«dict.pop»
    refine wpAny_bind ?_
    unfold Builtin.Dict.keyAndDefault
    refine wpAny_bind (wpAny_notOrdered_dict dict.typeIs ?_)
    show wpAny _ _ (pure (d, Value.ref b, none)) _ _ s
    refine wpAny_pure ?_
    simp only [hpart, Bool.false_eq_true, if_false]
    refine wpAny_bind (wpAny_dictEntries ho hdat (wpAny_bind (wpAny_pure ?_)))
    cases hem : es.isEmpty with
    | true =>
      have h0 : xs = [] := by
        have z : es.size = 0 := by simpa using hem
        exact List.length_eq_zero_iff.mp (by omega)
      rw [h0] at found
      cases found
    | false =>
      simp only [Bool.false_eq_true, if_false]
      refine wpAny_bind (DT.takeH room key dict few (fun hno => ?_) fun p' e hp hev h' hm' hs' => ?_)
      · rw [found] at hno; cases hno
      · rw [found] at hp
        cases hp
        simp only [Option.isNone_some, Bool.false_eq_true, if_false]
        exact wpAny_bind (wpAny_letGo (wpAny_pure ⟨e.val, rfl, by rw [hev]; exact fin h' _ hm' hs'⟩))
end
def rPopT1 : V → List V → Hp → VK → Prop := fun x xs H Q => ∃ (a : Addr) (kvs : List (List Key × V)) (k : List Key) (b : Addr) (v : V), x = .ref a ∧ xs = [.ref b] ∧ H a = some (.dT kvs) ∧ H b = some (.tup (k.map kV)) ∧ valV kvs k = some v ∧
  Q v (upd H a (.dT (dropK kvs k)))
theorem mt_popT1 {X : Cx} (hu : X.A.units + 1 < cLine) : MtR X "dict.pop" rPopT1 := by
  intro pins s σ H x xs v us Q I rx rxs h
  obtain ⟨a, kvs, k, b, v0, rfl, rfl, ha, hb, hv, q⟩ := h
  cases rx
  obtain ⟨u1, rfl, r1⟩ := vals1 rxs
  cases r1
  obtain ⟨z, lo, ks, rel, dd⟩ := dt_of I.hok ha
  have few : ks.length ≤ sizeLine := by rw [← Paired.length rel]; exact z
  have r := rel.val k
  rw [hv] at r
  obtain ⟨p, hp, rv⟩ : ∃ p, atKey ks k = some p ∧ RelV v0 p.2 := by
    cases ev : atKey ks k with
    | none => rw [ev] at r; exact (show False from r).elim
    | some p => rw [ev] at r; exact ⟨p, rfl, r⟩
  refine call_meetsIn PySem.F.slot_dict_pop dd.typeIs PySem.F.entry_dict_pop (PySem.F.args_dict_pop_2 _ _) (meetsPop1 (knd := tupleKind (mixKind X.prog X.w)) (k := k) lo)
    ⟨ks, p, tupleKind_room_in1 hu, key_of I.hok hb, dd, few, hp, fun h' tk dd' hs => ?_⟩
  obtain ⟨o, es, ep, hq, h2, h3, h4, _, h5⟩ := dd'
  have I2 : Inv X pins σ (upd H a (.dT (dropK kvs k))) { s with heap := h', toks := tk } :=
    d_write I (by rw [ha]; exact True.intro) hs ⟨o, hq⟩ ⟨Nat.le_trans (dropK_le kvs k) z, lo, _, (DX.KT_drop k rel).keeps (fun c ys ec => (by rw [upd_ne (ne_of ec ha (fun z => nomatch z))]; exact ec)), o, es, ep, hq, h2, h3, h4, h5⟩
  show EP X pins σ Q p.2 _
  exact ⟨v0, _, I2, rv, q⟩
end Jk

namespace Jk
open PySem PySem.Spec L2 Evl

/-! ## readings that simp can run -/
/-- no attribute of that name -/
def NoFld (fs : List (Str × V)) (m : Str) : Prop := fs.lookup m = none
section
variable {σ : L2.St} {H : Hp} {D : Ends} {Q : VK} {QB : Bool → Hp → Prop} {QA : List V → Hp → Prop} {QS : L2.St → Hp → Prop} {t u ts : TS} {ta tb te tv tc : TE} {c c1 c2 : TT} {tr : TA} {g : TG} {gs : TGs} {v x y : V} {r : R2} {K : PySem.W.Frag}
@[simp] theorem j_seq : tSeq t u D σ H = t { D with nx := u D } σ H := rfl
@[simp] theorem j_next : tNext D σ H = D.nx σ H := rfl
@[simp] theorem j_asg : tAsg te g D σ H = te σ H fun x H1 => g x σ H1 D.nx := rfl
@[simp] theorem j_gname {i : Nat} : gName i v σ H QS = QS (σ.set i (some v)) H := rfl
@[simp] theorem j_gnil : gNil [] σ H QS = QS σ H := by simp [gNil]
@[simp] theorem j_gcons {vs : List V} : gCons g gs (v :: vs) σ H QS = g v σ H fun s1 H1 => gs vs s1 H1 QS := propext ⟨fun ⟨_, _, e, q⟩ => by cases e; exact q, fun q => ⟨v, vs, rfl, q⟩⟩
@[simp] theorem j_drop : tDrop te D σ H = te σ H fun _ H1 => D.nx σ H1 := rfl
@[simp] theorem j_ret : tRet te D σ H = te σ H D.rt := rfl
@[simp] theorem j_retN : tRetN D σ H = D.rt .non H := rfl
@[simp] theorem j_if : tIfS c t u D σ H = c σ H fun b H1 => if b = true then t D σ H1 else u D σ H1 := rfl
@[simp] theorem j_brk : tBreak D σ H = D.bk σ H := rfl
@[simp] theorem j_cont : tCont D σ H = D.ct σ H := rfl
@[simp] theorem j_var {i : Nat} : tVar i σ H Q = ∃ v, σ[i]? = some (some v) ∧ Q v H := rfl
@[simp] theorem j_c : tC v σ H Q = Q v H := rfl
@[simp] theorem j_B : tB te σ H QB = te σ H fun x H1 => ∃ c, x = .bl c ∧ QB c H1 := rfl
@[simp] theorem j_test : tTest te σ H QB = te σ H fun x H1 => ∃ c, x = .bl c ∧ QB c H1 := rfl
@[simp] theorem j_and : tAnd c1 c2 σ H QB = c1 σ H fun b H1 => if b = true then c2 σ H1 QB else QB false H1 := rfl
@[simp] theorem j_or : tOr c1 c2 σ H QB = c1 σ H fun b H1 => if b = true then QB true H1 else c2 σ H1 QB := rfl
@[simp] theorem j_not : tNot c σ H QB = c σ H fun b H1 => QB (!b) H1 := rfl
@[simp] theorem j_andV : tAndV ta tb σ H Q = ta σ H fun x H1 => ∃ c, x = .bl c ∧ if c = true then tb σ H1 Q else Q (.bl false) H1 := rfl
@[simp] theorem j_orV : tOrV ta tb σ H Q = ta σ H fun x H1 => ∃ c, x = .bl c ∧ if c = true then Q (.bl true) H1 else tb σ H1 Q := rfl
@[simp] theorem j_notV : tNotV ta σ H Q = ta σ H fun x H1 => ∃ c, x = .bl c ∧ Q (.bl (!c)) H1 := rfl
@[simp] theorem j_ifE : tIf c ta tb σ H Q = c σ H fun b H1 => if b = true then ta σ H1 Q else tb σ H1 Q := rfl
@[simp] theorem j_op : tOp r ta tb σ H Q = ta σ H fun x H1 => tb σ H1 fun y H2 => r x y H2 Q := rfl
@[simp] theorem j_un {r1 : V → Hp → VK → Prop} : tUn r1 ta σ H Q = ta σ H fun x H1 => r1 x H1 Q := rfl
@[simp] theorem j_rI {C : Int → Int → Prop} {f : Int → Int → V} {i j : Int} : rI C f (.int i) (.int j) H Q = (C i j ∧ Q (f i j) H) := by simp [rI]
@[simp] theorem j_rI0 {f : Int → Int → V} {i j : Int} : rI0 f (.int i) (.int j) H Q = Q (f i j) H := by simp [rI0]
@[simp] theorem j_rU {f : Int → V} {i : Int} : rU f (.int i) H Q = Q (f i) H := by simp [rU]
@[simp] theorem j_eq_ii {i j : Int} : rEq (.int i) (.int j) H Q = Q (.bl (decide (i = j))) H := by simp [rEq, scal]
@[simp] theorem j_ne_ii {i j : Int} : rNe (.int i) (.int j) H Q = Q (.bl (!decide (i = j))) H := by simp [rNe, scal]
@[simp] theorem j_eq_ss {i j : Str} : rEq (.str i) (.str j) H Q = Q (.bl (decide (i = j))) H := by simp [rEq, scal]
@[simp] theorem j_ne_ss {i j : Str} : rNe (.str i) (.str j) H Q = Q (.bl (!decide (i = j))) H := by simp [rNe, scal]
@[simp] theorem j_eq_bb {i j : Bool} : rEq (.bl i) (.bl j) H Q = Q (.bl (decide (i = j))) H := by simp [rEq, scal]
@[simp] theorem j_ne_bb {i j : Bool} : rNe (.bl i) (.bl j) H Q = Q (.bl (!decide (i = j))) H := by simp [rNe, scal]
@[simp] theorem j_chain {r' : R2} : tChain r r' ta tb tc σ H Q = ta σ H fun x H1 => tb σ H1 fun y H2 => r x y H2 fun z H3 => ∃ k, z = .bl k ∧ (if k = true then tc σ H3 fun w' H4 => r' y w' H4 Q else Q (.bl false) H3) := rfl
@[simp] theorem j_fld {f : Str} : tFld K ta f σ H Q = ta σ H fun x H1 => ∃ a C dx fs v, x = .ref a ∧ H1 a = some (.ins C dx fs) ∧ Cls K C ∧ NoAttr K C f ∧ fs.lookup f = some v ∧ Q v H1 := rfl
@[simp] theorem j_sfld {f : Str} : sFld K ta tv f D σ H = tv σ H fun y H1 => ta σ H1 fun x H2 => ∃ a C dx fs, x = .ref a ∧ H2 a = some (.ins C dx fs) ∧ Cls K C ∧ NoAttr K C f ∧ fs.length < 1000 ∧ D.nx σ (upd H2 a (.ins C dx (putF f y fs))) := rfl
@[simp] theorem j_nil : tNil σ H QA = QA [] H := rfl
@[simp] theorem j_cons : tCons ta tr σ H QA = ta σ H fun x H1 => tr σ H1 fun xs H2 => QA (x :: xs) H2 := rfl
@[simp] theorem j_cb {r1 : List V → Hp → VK → Prop} : tCB r1 tr σ H Q = tr σ H fun vs H1 => r1 vs H1 Q := rfl
@[simp] theorem j_call {sp : Sp} {E : XK} : tCall sp [] E tr σ H Q = tr σ H fun vs H1 => sp vs H1 Q E := by simp [tCall]
@[simp] theorem j_meth {sp : Sp} {E : XK} {C : Addr} {m : Str} : tMeth C m sp [] E ta tr σ H Q = ta σ H fun x H1 => ∃ a dx fs, x = .ref a ∧ H1 a = some (.ins C dx fs) ∧ NoFld fs m ∧ tr σ H1 fun vs H2 => sp (x :: vs) H2 Q E := by simp [tMeth, NoFld]
@[simp] theorem j_methS {sp : Sp} {E : L2.St → XK} {C : Addr} {m : Str} : jMethS C m sp E ta tr σ H Q = ta σ H fun x H1 => ∃ a dx fs, x = .ref a ∧ H1 a = some (.ins C dx fs) ∧ NoFld fs m ∧ tr σ H1 fun vs H2 => sp (x :: vs) H2 Q (E σ) := rfl
@[simp] theorem j_makeS {sp : Sp} {E : L2.St → XK} {C : Addr} : jMakeS C sp E tr σ H Q = tr σ H fun vs H1 => ∀ x dx, H1 x = none → H1 dx = none → dx ≠ x → sp (.ref x :: vs) (upd (upd H1 dx (.own x)) x (.ins C dx [])) (fun v H2 => v = .non ∧ Q (.ref x) H2) (E σ) := rfl
@[simp] theorem j_make {sp : Sp} {E : XK} {C : Addr} : tMake C sp [] E tr σ H Q = tr σ H fun vs H1 => ∀ x dx, H1 x = none → H1 dx = none → dx ≠ x → sp (.ref x :: vs) (upd (upd H1 dx (.own x)) x (.ins C dx [])) (fun v H2 => v = .non ∧ Q (.ref x) H2) E := by simp [tMake]
@[simp] theorem j_isN {y : V} : (fun (x y : V) (H : Hp) (Q : VK) => y = V.non ∧ Q (.bl (decide (x = .non))) H) x y H Q = (y = V.non ∧ Q (.bl (decide (x = .non))) H) := rfl
@[simp] theorem kV_int {n : Int} {k : Key} : (V.int n = kV k) = (k = Sum.inl n) := by
  cases k with
  | inl i => simp [kV, eq_comm]
  | inr s => simp [kV]
@[simp] theorem kV_str {n : Str} {k : Key} : (V.str n = kV k) = (k = Sum.inr n) := by
  cases k with
  | inl i => simp [kV]
  | inr s => simp [kV, eq_comm]
end

section
variable {X : Cx}
/-- a reading that asks more -/
theorem _root_.L2.PE.by {e : Expr} {t t' : TE} (h : PE X e t) (k : ∀ σ H Q, t' σ H Q → t σ H Q) : PE X e t' := ⟨fun pins s σ H Q I q => h.run pins s σ H Q I (k σ H Q q)⟩
theorem _root_.L2.PG.by {e : Expr} {t t' : TG} (h : PG X e t) (k : ∀ v σ H Q, t' v σ H Q → t v σ H Q) : PG X e t' := ⟨fun pins s σ H v u Q I r q => h.run pins s σ H v u Q I r (k v σ H Q q)⟩
theorem _root_.L2.PS.by {e : Stmt} {t t' : TS} (h : PS X e t) (k : ∀ D σ H, t' D σ H → t D σ H) : PS X e t' := ⟨fun pins s σ H D I q => h.run pins s σ H D I (k D σ H q)⟩
theorem callBy {f : Value} {r r' : List V → Hp → VK → Prop} (h : CallR X f r) (k : ∀ xs H Q, r' xs H Q → r xs H Q) : CallR X f r' := fun pins s σ H xs us Q I rr q => h pins s σ H xs us Q I rr (k xs H Q q)

/-- an attribute, the written part named -/
theorem pe_fldK {K0 : PySem.W.Frag} {e : Expr} {ta : TE} {f : Str} {pos : Pos} (he : PE X e ta) (hb : attributeBase e f X.env (eval e X.env) = eval e X.env := by rfl) (hK : X.K = K0 := by rfl) : PE X (.Attribute e f pos) (tFld K0 ta f) := by
  subst hK
  exact pe_fld he hb
/-! new tuples and lists, what was tracked kept -/
def jTup (tr : TA) : TE := fun σ H Q => tr σ H fun xs H1 => xs.length ≤ 1000 ∧ ∀ p H2, H1 p = none → Ex H1 H2 → H2 p = some (.tup xs) → Q (.ref p) H2
def jLst (tr : TA) : TE := fun σ H Q => tr σ H fun xs H1 => xs.length ≤ 1000 ∧ ∀ p H2, H1 p = none → Ex H1 H2 → H2 p = some (.lst xs) → Q (.ref p) H2
@[simp] theorem j_tup {σ H Q} {tr : TA} : jTup tr σ H Q = tr σ H fun xs H1 => xs.length ≤ 1000 ∧ ∀ p H2, H1 p = none → Ex H1 H2 → H2 p = some (.tup xs) → Q (.ref p) H2 := rfl
@[simp] theorem j_lst {σ H Q} {tr : TA} : jLst tr σ H Q = tr σ H fun xs H1 => xs.length ≤ 1000 ∧ ∀ p H2, H1 p = none → Ex H1 H2 → H2 p = some (.lst xs) → Q (.ref p) H2 := rfl
theorem line1000 {n : Nat} (h : n ≤ 1000) : n ≤ sizeLine := Nat.le_trans h (by decide)
theorem pe_tupJ {es : List Expr} {t : TA} {x1} {pos : Pos} (h : PA X es t) : PE X (.Tuple es x1 pos) (jTup t) := by
  refine ⟨fun pins s σ H Q I hq => ?_⟩
  refine (pe_tup (x1 := x1) (pos := pos) (t := fun σ H Q => ∃ Q', t σ H Q' ∧ ∀ vs H', Q' vs H' → Q vs H') ⟨fun pos pins s σ H Q I q => ?_⟩).run pins s σ H Q I ⟨_, hq, fun xs H1 ⟨z, k⟩ => ⟨line1000 z, fun p hp => k p _ hp (Ex.new hp) upd_same⟩⟩
  obtain ⟨Q', q1, q2⟩ := q
  exact thn (h.run pos pins s σ H Q' I q1) fun us s1 ⟨xs, H1, I1, r, k⟩ => ⟨xs, H1, I1, r, q2 _ _ k⟩
theorem pe_lstJ {es : List Expr} {t : TA} {pos : Pos} (h : PA X es t) : PE X (.List es pos) (jLst t) := by
  refine ⟨fun pins s σ H Q I hq => ?_⟩
  refine (pe_lst (pos := pos) (t := fun σ H Q => ∃ Q', t σ H Q' ∧ ∀ vs H', Q' vs H' → Q vs H') ⟨fun pos pins s σ H Q I q => ?_⟩).run pins s σ H Q I ⟨_, hq, fun xs H1 ⟨z, k⟩ => ⟨line1000 z, fun p hp => k p _ hp (Ex.new hp) upd_same⟩⟩
  obtain ⟨Q', q1, q2⟩ := q
  exact thn (h.run pos pins s σ H Q' I q1) fun us s1 ⟨xs, H1, I1, r, k⟩ => ⟨xs, H1, I1, r, q2 _ _ k⟩
def jDict : TE := fun _ H Q => ∀ p H2, H p = none → Ex H H2 → H2 p = some (.dK []) → Q (.ref p) H2
@[simp] theorem j_dict {σ H Q} : jDict σ H Q = ∀ p H2, H p = none → Ex H H2 → H2 p = some (.dK []) → Q (.ref p) H2 := rfl
theorem pe_dictJ {pos : Pos} : PE X (.Dict [] [] pos) jDict := pe_dnewK.by fun σ H Q q p hp => q p _ hp (Ex.new hp) upd_same

/-! operators -/
theorem opBy {f : Value → Value → Sem Value} {r r' : R2} (h : OpR X f r) (k : ∀ x y H Q, r' x y H Q → r x y H Q) : OpR X f r' := fun pins s σ H x y v u Q I r1 r2 q => h pins s σ H x y v u Q I r1 r2 (k x y H Q q)
def jCat : R2 := fun x y H Q => ∃ l b xs zs, x = .ref l ∧ y = .ref b ∧ H l = some (.lst xs) ∧ H b = some (.lst zs) ∧ xs.length + zs.length ≤ 100000 ∧ ∀ p H2, H p = none → Ex H H2 → H2 p = some (.lst (xs ++ zs)) → Q (.ref p) H2
theorem op_catJ : OpR X (binaryOp .Add) jCat := opBy op_cat fun x y H Q ⟨l, b, xs, zs, e1, e2, h1, h2, z, k⟩ => ⟨l, b, xs, zs, e1, e2, h1, h2, Nat.le_trans z (by decide), fun p hp => k p _ hp (Ex.new hp) upd_same⟩
def jRep : R2 := fun x y H Q => ∃ l k xs, x = .ref l ∧ y = .int k ∧ H l = some (.lst xs) ∧ 0 ≤ k ∧ k ≤ 1000 ∧ xs.length ≤ 1000 ∧ ∀ p H2, H p = none → Ex H H2 → H2 p = some (.lst (List.replicate k.toNat xs).flatten) → Q (.ref p) H2
theorem op_repJ : OpR X (binaryOp .Mult) jRep := opBy op_rep fun x y H Q ⟨l, k, xs, e1, e2, h1, h2, h3, h4, q⟩ => ⟨l, k, xs, e1, e2, h1, by omega, by omega, by
    have z : xs.length * k.toNat ≤ 1000 * 1000 := Nat.mul_le_mul h4 (by omega)
    exact Nat.le_trans z (by decide), fun p hp => q p _ hp (Ex.new hp) upd_same⟩
def jIxL : R2 := fun x y H Q => ∃ p xs i v, x = .ref p ∧ y = .int i ∧ H p = some (.lst xs) ∧ 0 ≤ i ∧ xs[i.toNat]? = some v ∧ Q v H
def jIxT : R2 := fun x y H Q => ∃ p xs i v, x = .ref p ∧ y = .int i ∧ H p = some (.tup xs) ∧ 0 ≤ i ∧ xs[i.toNat]? = some v ∧ Q v H
theorem at_toNat {xs : List V} {i : Int} {v : V} (h : 0 ≤ i) (e : xs[i.toNat]? = some v) : atI xs i = some v := at_of (j := i.toNat) (by omega) e
theorem ix_listJ : IxR X jIxL := fun vl sl pins s σ H x y v u Q I rx ry q hs => ix_list vl sl pins s σ H x y v u Q I rx ry (by
  obtain ⟨p, xs, i, z, e1, e2, h1, h2, h3, k⟩ := q
  exact ⟨p, xs, i, z, e1, e2, .inl (.inl h1), at_toNat h2 h3, k⟩) hs
theorem ix_tupJ : IxR X jIxT := fun vl sl pins s σ H x y v u Q I rx ry q hs => ix_tup vl sl pins s σ H x y v u Q I rx ry (by
  obtain ⟨p, xs, i, z, e1, e2, h1, h2, h3, k⟩ := q
  exact ⟨p, xs, i, z, e1, e2, .inl (.inl h1), at_toNat h2 h3, k⟩) hs

/-! dicts -/
variable {o i value : Expr} {td ty : TE} {pos tpos : Pos}
def jDGet (td ty : TE) : TE := fun σ H Q => td σ H fun x H1 => ty σ H1 fun y H2 => ∃ a kvs k v, x = .ref a ∧ H2 a = some (.dK kvs) ∧ y = kV k ∧ valV kvs k = some v ∧ Q v H2
@[simp] theorem j_dget {σ H Q} : jDGet td ty σ H Q = td σ H fun x H1 => ty σ H1 fun y H2 => ∃ a kvs k v, x = .ref a ∧ H2 a = some (.dK kvs) ∧ y = kV k ∧ valV kvs k = some v ∧ Q v H2 := rfl

/-- a reading that may be weakened behind -/
def cl (t : TE) : TE := fun σ H Q => ∃ Q', t σ H Q' ∧ ∀ v H', Q' v H' → Q v H'
theorem _root_.L2.PE.cl {e : Expr} {t : TE} (h : PE X e t) : PE X e (cl t) := ⟨fun pins s σ H Q I ⟨Q', q1, q2⟩ => thn (h.run pins s σ H Q' I q1) fun u s1 ⟨v, H1, I1, r, k⟩ => ⟨v, H1, I1, r, q2 _ _ k⟩⟩
theorem pe_dgetJ (hu : X.A.units + 1 < cLine) (ho : PE X o td) (hi : PE X i ty) (hs : NoSl i) : PE X (.Subscript o i pos) (jDGet td ty) :=
  (pe_dget hu ho.cl hi.cl hs).by fun σ H Q q => ⟨_, q, fun x H1 k => ⟨_, k, fun y H2 ⟨a, kvs, k, v, e1, h1, e2, e3, q⟩ => ⟨a, v, e1, by rw [e2, ← e3]; exact DGet.k h1, q⟩⟩⟩
def jDIn (ty td : TE) : TE := fun σ H Q => ty σ H fun y H1 => td σ H1 fun x H2 => ∃ a kvs k, x = .ref a ∧ H2 a = some (.dK kvs) ∧ y = kV k ∧ Q (.bl (valV kvs k).isSome) H2
@[simp] theorem j_din {σ : L2.St} {H : Hp} {Q : VK} : jDIn ty td σ H Q = ty σ H fun y H1 => td σ H1 fun x H2 => ∃ a kvs k, x = .ref a ∧ H2 a = some (.dK kvs) ∧ y = kV k ∧ Q (.bl (valV kvs k).isSome) H2 := rfl
theorem pc_dinJ (hu : X.A.units + 1 < cLine) (hi : PE X i ty) (ho : PE X o td) : PC X .In i o (jDIn ty td) := by
  refine ⟨fun pins s σ H Q I q => (pc_din hu hi.cl ho.cl).run pins s σ H Q I ⟨_, q, fun y H1 k => ⟨_, k, fun x H2 ⟨a, kvs, k, e1, h1, e2, q⟩ => ⟨a, _, e1, by rw [e2]; exact DGet.k h1, q⟩⟩⟩⟩
/-- a pair of ints in a dict of such -/
def jDInT (ty td : TE) : TE := fun σ H Q => ty σ H fun y H1 => td σ H1 fun x H2 => ∃ a kvs b m n, x = .ref a ∧ H2 a = some (.dT kvs) ∧ y = .ref b ∧ H2 b = some (.tup [.int m, .int n]) ∧ Q (.bl (valV kvs (keyP (m, n))).isSome) H2
@[simp] theorem j_dinT {σ : L2.St} {H : Hp} {Q : VK} : jDInT ty td σ H Q = ty σ H fun y H1 => td σ H1 fun x H2 => ∃ a kvs b m n, x = .ref a ∧ H2 a = some (.dT kvs) ∧ y = .ref b ∧ H2 b = some (.tup [.int m, .int n]) ∧ Q (.bl (valV kvs (keyP (m, n))).isSome) H2 := rfl
theorem pc_dinT (hu : X.A.units + 1 < cLine) (hi : PE X i ty) (ho : PE X o td) : PC X .In i o (jDInT ty td) := by
  refine ⟨fun pins s σ H Q I q => (pc_din hu hi.cl ho.cl).run pins s σ H Q I ⟨_, q, fun y H1 k => ⟨_, k, fun x H2 ⟨a, kvs, b, m, n, e1, h1, e2, h2, q⟩ => ⟨a, _, e1, by rw [e2]; exact DGet.t (k := keyP (m, n)) h1 h2, q⟩⟩⟩⟩
def jDPut (td ty tv : TE) : TS := fun D σ H => tv σ H fun v H1 => td σ H1 fun x H2 => ty σ H2 fun y H3 => ∃ a kvs k, x = .ref a ∧ H3 a = some (.dK kvs) ∧ y = kV k ∧ kvs.length ≤ 100000 ∧ D.nx σ (upd H3 a (.dK (putK kvs k v)))
@[simp] theorem j_dput {tv : TE} {D : Ends} {σ : L2.St} {H : Hp} : jDPut td ty tv D σ H = tv σ H fun v H1 => td σ H1 fun x H2 => ty σ H2 fun y H3 => ∃ a kvs k, x = .ref a ∧ H3 a = some (.dK kvs) ∧ y = kV k ∧ kvs.length ≤ 100000 ∧ D.nx σ (upd H3 a (.dK (putK kvs k v))) := rfl
theorem lt_line {n : Nat} (h : n ≤ 100000) : n < sizeLine := Nat.lt_of_le_of_lt h (by decide)
theorem ps_dputJ {tv : TE} {pos' : Pos} (hu : X.A.units + 1 < cLine) (ho : PE X o td) (hi : PE X i ty) (hv : PE X value tv) (hs : swapsWith value (some (.Subscript o i pos')) pos.line X.env = pure false) :
    PS X (.Assign [.Subscript o i pos'] value pos) (jDPut td ty tv) :=
  (ps_dput hu ho.cl hi.cl hv.cl hs).by fun D σ H q => ⟨_, q, fun v H1 k => ⟨_, k, fun x H2 k => ⟨_, k, fun y H3 ⟨a, kvs, k, e1, h1, e2, z, q⟩ => ⟨a, _, e1, by rw [e2]; exact DPut.k h1 (lt_line z), q⟩⟩⟩⟩
def jDPutT (td ty tv : TE) : TS := fun D σ H => tv σ H fun v H1 => td σ H1 fun x H2 => ty σ H2 fun y H3 => ∃ a kvs b m n, x = .ref a ∧ H3 a = some (.dT kvs) ∧ y = .ref b ∧ H3 b = some (.tup [.int m, .int n]) ∧ kvs.length ≤ 100000 ∧ D.nx σ (upd H3 a (.dT (putK kvs (keyP (m, n)) v)))
@[simp] theorem j_dputT {tv : TE} {D : Ends} {σ : L2.St} {H : Hp} : jDPutT td ty tv D σ H = tv σ H fun v H1 => td σ H1 fun x H2 => ty σ H2 fun y H3 => ∃ a kvs b m n, x = .ref a ∧ H3 a = some (.dT kvs) ∧ y = .ref b ∧ H3 b = some (.tup [.int m, .int n]) ∧ kvs.length ≤ 100000 ∧ D.nx σ (upd H3 a (.dT (putK kvs (keyP (m, n)) v))) := rfl
theorem ps_dputT {tv : TE} {pos' : Pos} (hu : X.A.units + 1 < cLine) (ho : PE X o td) (hi : PE X i ty) (hv : PE X value tv) (hs : swapsWith value (some (.Subscript o i pos')) pos.line X.env = pure false) :
    PS X (.Assign [.Subscript o i pos'] value pos) (jDPutT td ty tv) :=
  (ps_dput hu ho.cl hi.cl hv.cl hs).by fun D σ H q => ⟨_, q, fun v H1 k => ⟨_, k, fun x H2 k => ⟨_, k, fun y H3 ⟨a, kvs, b, m, n, e1, h1, e2, h2, z, q⟩ => ⟨a, _, e1, by rw [e2]; exact DPut.t (k := keyP (m, n)) h1 h2 (lt_line z), q⟩⟩⟩⟩
@[simp] theorem j_ddel {D : Ends} {σ : L2.St} {H : Hp} : sDDel td ty D σ H = td σ H fun x H1 => ty σ H1 fun y H2 => ∃ a kvs k, x = .ref a ∧ H2 a = some (.dK kvs) ∧ y = kV k ∧ (valV kvs k).isSome = true ∧ D.nx σ (upd H2 a (.dK (dropK kvs k))) := rfl

/-! calls of built-ins by values -/
def tyN (H : Hp) : V → Option String
  | .non => some "NoneType"
  | .bl _ => some "bool"
  | .int _ => some "int"
  | .str _ => some "str"
  | .ref a => match H a with
    | some (.lst _) => some "list"
    | some (.tup _) => some "tuple"
    | some (.dK _) => some "dict"
    | some (.dT _) => some "dict"
    | _ => none
  | _ => none
theorem tyN_of {K : PySem.W.Frag} {H : Hp} {x : V} {n : String} (h : tyN H x = some n) : TyX K H x (.type n) := by
  cases x with
  | non => cases h; exact .base .non
  | bl b => cases h; exact .base (.bl b)
  | int i => cases h; exact .base (.int i)
  | str s => cases h; exact .base (.str s)
  | byt b => cases h
  | flt b => cases h
  | ty n => cases h
  | ref a =>
    unfold tyN at h
    dsimp only at h
    split at h
    · rename_i e; cases h; exact .base (.lst e)
    · rename_i e; cases h; exact .base (.tup e)
    · rename_i e; cases h; exact .base (.dK e)
    · rename_i e; cases h; exact .base (.dT e)
    · cases h
def jIs : List V → Hp → VK → Prop := fun xs H Q => ∃ x n t b, xs = [x, .ty n] ∧ tyN H x = some t ∧ kitB t n = some b ∧ Q (.bl b) H
theorem call_isJ : CallR X (.builtin "isinstance") jIs := callBy call_isi fun xs H Q ⟨x, n, t, b, e1, e2, e3, q⟩ => ⟨x, .ty n, _, _, b, e1, .ty n, tyN_of e2, kit_ty e3, q⟩
def jLen : List V → Hp → VK → Prop := fun vs H Q => ∃ p xs, vs = [.ref p] ∧ H p = some (.lst xs) ∧ Q (.int xs.length) H
theorem call_lenJ : CallR X (.builtin "len") jLen := callBy call_len_seq fun vs H Q ⟨p, xs, e, h, q⟩ => ⟨p, xs, e, .inl (.inl (.inl h)), q⟩
def jLenT : List V → Hp → VK → Prop := fun vs H Q => ∃ p xs, vs = [.ref p] ∧ H p = some (.tup xs) ∧ Q (.int xs.length) H
theorem call_lenT : CallR X (.builtin "len") jLenT := callBy call_len_seq fun vs H Q ⟨p, xs, e, h, q⟩ => ⟨p, xs, e, .inr (.inl (.inl h)), q⟩
def jList : List V → Hp → VK → Prop := fun vs H Q => ∃ p xs, vs = [.ref p] ∧ (H p = some (.lst xs) ∨ H p = some (.tup xs)) ∧ ∀ l H2, H l = none → Ex H H2 → H2 l = some (.lst xs) → Q (.ref l) H2
theorem call_listJ : CallR X (.type "list") jList := callBy call_list_of fun vs H Q ⟨p, xs, e, h, q⟩ => ⟨p, xs, e, h.imp (fun h => .inl (.inl h)) (fun h => .inl (.inl h)), fun l hl => q l _ hl (Ex.new hl) upd_same⟩
@[simp] theorem kb_ii : kitB "int" "int" = some true := by decide +kernel
@[simp] theorem kb_bi : kitB "bool" "int" = some true := by decide +kernel
@[simp] theorem kb_bb : kitB "bool" "bool" = some true := by decide +kernel
@[simp] theorem kb_ib : kitB "int" "bool" = some false := by decide +kernel
@[simp] theorem kb_ni : kitB "NoneType" "int" = some false := by decide +kernel
@[simp] theorem kb_si : kitB "str" "int" = some false := by decide +kernel
@[simp] theorem kb_li : kitB "list" "int" = some false := by decide +kernel
@[simp] theorem kb_ti : kitB "tuple" "int" = some false := by decide +kernel
@[simp] theorem kb_di : kitB "dict" "int" = some false := by decide +kernel
@[simp] theorem kb_nb : kitB "NoneType" "bool" = some false := by decide +kernel
@[simp] theorem kb_sb : kitB "str" "bool" = some false := by decide +kernel
@[simp] theorem kb_lb : kitB "list" "bool" = some false := by decide +kernel
@[simp] theorem kb_tb : kitB "tuple" "bool" = some false := by decide +kernel
@[simp] theorem kb_db : kitB "dict" "bool" = some false := by decide +kernel
@[simp] theorem kb_ll : kitB "list" "list" = some true := by decide +kernel
@[simp] theorem kb_tt : kitB "tuple" "tuple" = some true := by decide +kernel
@[simp] theorem kb_it : kitB "int" "tuple" = some false := by decide +kernel
@[simp] theorem kb_bt : kitB "bool" "tuple" = some false := by decide +kernel
@[simp] theorem kb_nt : kitB "NoneType" "tuple" = some false := by decide +kernel
@[simp] theorem kb_st : kitB "str" "tuple" = some false := by decide +kernel
@[simp] theorem kb_lt : kitB "list" "tuple" = some false := by decide +kernel
@[simp] theorem kb_dt : kitB "dict" "tuple" = some false := by decide +kernel
@[simp] theorem kb_ss : kitB "str" "str" = some true := by decide +kernel
@[simp] theorem tyN_non {H : Hp} : tyN H .non = some "NoneType" := rfl
@[simp] theorem tyN_bl {H : Hp} {b : Bool} : tyN H (.bl b) = some "bool" := rfl
@[simp] theorem tyN_int {H : Hp} {b : Int} : tyN H (.int b) = some "int" := rfl
@[simp] theorem tyN_str {H : Hp} {b : Str} : tyN H (.str b) = some "str" := rfl
theorem tyN_lst {H : Hp} {a : Addr} {xs : List V} (h : H a = some (.lst xs)) : tyN H (.ref a) = some "list" := by simp [tyN, h]
theorem tyN_tup {H : Hp} {a : Addr} {xs : List V} (h : H a = some (.tup xs)) : tyN H (.ref a) = some "tuple" := by simp [tyN, h]
theorem tyN_dK {H : Hp} {a : Addr} {xs : List (Key × V)} (h : H a = some (.dK xs)) : tyN H (.ref a) = some "dict" := by simp [tyN, h]
@[simp] theorem j_is {x : V} {n : String} {H : Hp} {Q : VK} : jIs [x, .ty n] H Q = ∃ t b, tyN H x = some t ∧ kitB t n = some b ∧ Q (.bl b) H := propext ⟨fun ⟨_, _, t, b, e, h⟩ => by cases e; exact ⟨t, b, h⟩, fun ⟨t, b, h⟩ => ⟨_, _, t, b, rfl, h⟩⟩
@[simp] theorem j_len {p : Addr} {H : Hp} {Q : VK} : jLen [.ref p] H Q = ∃ xs, H p = some (.lst xs) ∧ Q (.int xs.length) H := by simp [jLen]
@[simp] theorem j_app {l : Addr} {y : V} {H : Hp} {Q : VK} : rAppend (.ref l) [y] H Q = ∃ xs, H l = some (.lst xs) ∧ xs.length < sizeLine ∧ Q .non (upd H l (.lst (xs ++ [y]))) := by simp [rAppend]
@[simp] theorem j_ixL {p : Addr} {i : Int} {H : Hp} {Q : VK} : jIxL (.ref p) (.int i) H Q = ∃ xs v, H p = some (.lst xs) ∧ 0 ≤ i ∧ xs[i.toNat]? = some v ∧ Q v H := by simp [jIxL]
@[simp] theorem j_ixT {p : Addr} {i : Int} {H : Hp} {Q : VK} : jIxT (.ref p) (.int i) H Q = ∃ xs v, H p = some (.tup xs) ∧ 0 ≤ i ∧ xs[i.toNat]? = some v ∧ Q v H := by simp [jIxT]

/-! methods of lists, targets that are pairs -/
def jBM (r : V → List V → Hp → VK → Prop) (to : TE) (tr : TA) : TE := fun σ H Q => to σ H fun x H1 => (∃ p xs, x = .ref p ∧ H1 p = some (.lst xs)) ∧ tr σ H1 fun vs H2 => r x vs H2 Q
@[simp] theorem j_bm {r : V → List V → Hp → VK → Prop} {to : TE} {tr : TA} {σ : L2.St} {H : Hp} {Q : VK} : jBM r to tr σ H Q = to σ H fun x H1 => (∃ p xs, x = .ref p ∧ H1 p = some (.lst xs)) ∧ tr σ H1 fun vs H2 => r x vs H2 Q := rfl
theorem pe_bmL {o e : Expr} {es : List Expr} {to : TE} {tr : TA} {name : Str} {apos cpos : Pos} {id : String} {r : V → List V → Hp → VK → Prop} (slot : Slot "list" name id) (hty : typeOf (.builtin id) = pure (.type "method_descriptor")) (hm : MtR X id r) (ho : PE X o to) (ha : PA X (e :: es) tr)
    (h1 : attributeBase o name X.env (eval o X.env) = eval o X.env := by rfl)
    (h2 : ((backTo cpos (starEach (e :: es) X.env)).all (fun x => !x.1) && (backToKw cpos (keywordEach [] X.env)).all (fun x => x.1.isSome) && decide ((e :: es).length + ([] : List Keyword).length + (if ([] : List Keyword).isEmpty then 0 else 1) < 30)) = true := by rfl)
    (h3 : (apos.endLine == cpos.line) = true := by rfl) (h4 : starEach (e :: es) X.env = (false, eval e X.env) :: starEach es X.env := by rfl) (h5 : (backTo cpos (starEach es X.env)).any (·.1) = false := by rfl) :
    PE X (.Call (.Attribute o name apos) (e :: es) [] cpos) (jBM r to tr) :=
  (pe_bm PySem.F.plainAttrs_list slot hty hm ho.cl ha h1 h2 h3 h4 h5).by fun σ H Q q => ⟨_, q, fun x H1 ⟨⟨p, xs, e, h⟩, k⟩ => ⟨by rw [e]; exact .inl ⟨rfl, xs, .inl (.inl h)⟩, k⟩⟩
def jBM0 (r : V → List V → Hp → VK → Prop) (to : TE) : TE := fun σ H Q => to σ H fun x H1 => (∃ p xs, x = .ref p ∧ H1 p = some (.lst xs)) ∧ r x [] H1 Q
@[simp] theorem j_bm0 {r : V → List V → Hp → VK → Prop} {to : TE} {σ : L2.St} {H : Hp} {Q : VK} : jBM0 r to σ H Q = to σ H fun x H1 => (∃ p xs, x = .ref p ∧ H1 p = some (.lst xs)) ∧ r x [] H1 Q := rfl
theorem pe_bmL0 {o : Expr} {to : TE} {name : Str} {apos cpos : Pos} {id : String} {r : V → List V → Hp → VK → Prop} (slot : Slot "list" name id) (hty : typeOf (.builtin id) = pure (.type "method_descriptor")) (hm : MtR X id r) (ho : PE X o to)
    (h1 : attributeBase o name X.env (eval o X.env) = eval o X.env := by rfl) (h2 : (apos.endLine == cpos.line) = true := by rfl) : PE X (.Call (.Attribute o name apos) [] [] cpos) (jBM0 r to) :=
  (pe_bm0 PySem.F.plainAttrs_list slot hty hm ho.cl h1 h2).by fun σ H Q q => ⟨_, q, fun x H1 ⟨⟨p, xs, e, h⟩, k⟩ => ⟨by rw [e]; exact .inl ⟨rfl, xs, .inl (.inl h)⟩, k⟩⟩
def jBMD (r : V → List V → Hp → VK → Prop) (to : TE) (tr : TA) : TE := fun σ H Q => to σ H fun x H1 => (∃ p xs, x = .ref p ∧ H1 p = some (.dT xs)) ∧ tr σ H1 fun vs H2 => r x vs H2 Q
@[simp] theorem j_bmd {r : V → List V → Hp → VK → Prop} {to : TE} {tr : TA} {σ : L2.St} {H : Hp} {Q : VK} : jBMD r to tr σ H Q = to σ H fun x H1 => (∃ p xs, x = .ref p ∧ H1 p = some (.dT xs)) ∧ tr σ H1 fun vs H2 => r x vs H2 Q := rfl
theorem pe_popT {o e : Expr} {to : TE} {tr : TA} {apos cpos : Pos} (hu : X.A.units + 1 < cLine) (ho : PE X o to) (ha : PA X [e] tr)
    (h1 : attributeBase o "pop" X.env (eval o X.env) = eval o X.env := by rfl)
    (h2 : ((backTo cpos (starEach [e] X.env)).all (fun x => !x.1) && (backToKw cpos (keywordEach [] X.env)).all (fun x => x.1.isSome) && decide ([e].length + ([] : List Keyword).length + (if ([] : List Keyword).isEmpty then 0 else 1) < 30)) = true := by rfl)
    (h3 : (apos.endLine == cpos.line) = true := by rfl) (h4 : starEach [e] X.env = (false, eval e X.env) :: starEach [] X.env := by rfl) (h5 : (backTo cpos (starEach [] X.env)).any (·.1) = false := by rfl) :
    PE X (.Call (.Attribute o "pop" apos) [e] [] cpos) (jBMD rPopT1 to tr) :=
  (pe_bm PySem.F.plainAttrs_dict PySem.F.slot_dict_pop PySem.F.type_dict_pop (mt_popT1 hu) ho.cl ha h1 h2 h3 h4 h5).by fun σ H Q q => ⟨_, q, fun x H1 ⟨⟨p, xs, e, h⟩, k⟩ => ⟨by rw [e]; exact .inr (.inr (.inl ⟨rfl, .inr ⟨xs, h⟩⟩)), k⟩⟩
def jTupG (n : Nat) (t : TGs) : TG := fun v σ H Q => ∃ a xs, v = .ref a ∧ H a = some (.tup xs) ∧ xs.length = n ∧ t xs σ H Q
@[simp] theorem j_tupG {n : Nat} {t : TGs} {a : Addr} {σ : L2.St} {H : Hp} {Q : L2.St → Hp → Prop} : jTupG n t (.ref a) σ H Q = ∃ xs, H a = some (.tup xs) ∧ xs.length = n ∧ t xs σ H Q := by simp [jTupG]
theorem pg_tupJ {es : List Expr} {k : Nat} {t : TGs} {n : Nat} {pos : Pos} (hc : X.calm = true) (h : PGs X es t) (hn : (assignEach es X.env).length = n := by rfl) (hst : (assignEach es X.env).findIdx? (·.1) = none := by rfl) : PG X (.Tuple es k pos) (jTupG n t) :=
  (pg_tup hc h hn hst).by fun v σ H Q ⟨a, xs, e, h, z, q⟩ => ⟨a, xs, e, .inl (.inl h), z, q⟩
end
/-- the statement ahead is read for any word that follows from Mid -/
theorem seq_by {t u : TS} {D : Ends} {σ : L2.St} {H : Hp} (Mid : L2.St → Hp → Prop) (h : ∀ N : L2.St → Hp → Prop, (∀ s1 H1, Mid s1 H1 → N s1 H1) → t { D with nx := N } σ H) (k : ∀ s1 H1, Mid s1 H1 → u D s1 H1) : tSeq t u D σ H := h (u D) k
/-! ## isinstance's answers from what the top says of the classes -/
theorem kit_ref {K : PySem.W.Frag} {D C : Addr} {b : Bool} (hd : PySem.W.hasDictIn K C = true) (ht : PySem.W.typeIn K (.ref C) = some (.type "type")) (hs : PySem.W.subIn K (.ref C) (.ref C) = some true) (h : PySem.W.subIn K (.ref D) (.ref C) = some b) :
    PySem.W.kitOne K (.ref D) (.ref C) = some b := by
  unfold PySem.W.kitOne
  by_cases e : D = C
  · subst e
    rw [hs] at h
    cases h
    simp
  · rw [if_neg (by simp [e])]
    obtain ⟨cd, hc, _⟩ := PySem.W.any_some hd
    show (if ((PySem.W.clsIn K C).isSome && PySem.W.typeIn K (.ref C) == some (.type "type")) = true then PySem.W.subIn K (.ref D) (.ref C) else none) = some b
    rw [hc, ht, if_pos (by rfl)]
    exact h
theorem kit_tyo {K : PySem.W.Frag} {D : Addr} {n : String} {b : Bool} (hm : PySem.W.kitMeta n = true) (h : PySem.W.subIn K (.ref D) (.type n) = some b) : PySem.W.kitOne K (.ref D) (.type n) = some b := by
  unfold PySem.W.kitOne
  rw [if_neg (by simp)]
  show (if PySem.W.kitMeta n = true then PySem.W.subIn K (.ref D) (.type n) else none) = some b
  rw [if_pos hm]
  exact h
section
variable {CX : CXT} {P : Program} {w : World} {K : PySem.W.Frag} {mg : Str → Option Value} {base : Heap} {N : List Str} {qual : Str} {scope : Scope} {f : Addr} {cd : Value} {A : Around} {outer : List Env} {s : Shared} {H : Hp} {E : XK}
@[simp] theorem cx_K : (cxOf CX P w K mg base N qual scope f cd A outer s H E).K = K := rfl
@[simp] theorem nox_K {X : Cx} : X.nox.K = X.K := rfl
end
end Jk

namespace Jk
open PySem PySem.Spec L2 Evl
@[simp] theorem kc_nl : kitB "NoneType" "list" = some false := by decide +kernel
@[simp] theorem kc_bl : kitB "bool" "list" = some false := by decide +kernel
@[simp] theorem kc_il : kitB "int" "list" = some false := by decide +kernel
@[simp] theorem kc_sl : kitB "str" "list" = some false := by decide +kernel
@[simp] theorem kc_tl : kitB "tuple" "list" = some false := by decide +kernel
@[simp] theorem kc_dl : kitB "dict" "list" = some false := by decide +kernel
@[simp] theorem kc_ns : kitB "NoneType" "str" = some false := by decide +kernel
@[simp] theorem kc_bs : kitB "bool" "str" = some false := by decide +kernel
@[simp] theorem kc_is : kitB "int" "str" = some false := by decide +kernel
@[simp] theorem kc_ls : kitB "list" "str" = some false := by decide +kernel
@[simp] theorem kc_ts : kitB "tuple" "str" = some false := by decide +kernel
@[simp] theorem kc_ds : kitB "dict" "str" = some false := by decide +kernel
/-! ## lists of pairs of ints -/
def TupsAt (H : Hp) (ts : List Addr) (prs : List (Int × Int)) : Prop := ts.length = prs.length ∧ ∀ (k : Nat) (t : Addr) (p : Int × Int), ts[k]? = some t → prs[k]? = some p → H t = some (.tup [.int p.1, .int p.2])
theorem TupsAt.map {H H' : Hp} {ts : List Addr} {prs : List (Int × Int)} (h : TupsAt H ts prs) (e : ∀ t o, H t = some (.tup o) → H' t = some (.tup o)) : TupsAt H' ts prs := ⟨h.1, fun k t p a b => e _ _ (h.2 k t p a b)⟩
theorem TupsAt.up {H H' : Hp} {ts : List Addr} {prs : List (Int × Int)} (h : TupsAt H ts prs) (e : Ex H H') : TupsAt H' ts prs := h.map fun _ _ z => e _ _ z
theorem TupsAt.upd {H : Hp} {ts : List Addr} {prs : List (Int × Int)} {D : Addr} {xs : List V} {o : HO} (h : TupsAt H ts prs) (hD : H D = some (.lst xs)) : TupsAt (L2.upd H D o) ts prs := h.map fun t u z => by
  rw [upd_ne (ne_of z hD (by intro y; cases y))]
  exact z
theorem TupsAt.nil (H : Hp) : TupsAt H [] [] := ⟨rfl, fun k t p a b => by simp at a⟩
theorem TupsAt.snoc {H : Hp} {ts : List Addr} {prs : List (Int × Int)} {t : Addr} {p : Int × Int} (h : TupsAt H ts prs) (ht : H t = some (.tup [.int p.1, .int p.2])) : TupsAt H (ts ++ [t]) (prs ++ [p]) := by
  refine ⟨by simp [h.1], fun k t' p' a b => ?_⟩
  by_cases hk : k < ts.length
  · rw [List.getElem?_append_left hk] at a
    rw [List.getElem?_append_left (by rw [← h.1]; exact hk)] at b
    exact h.2 k t' p' a b
  · rw [List.getElem?_append_right (by omega)] at a
    rw [List.getElem?_append_right (by rw [← h.1]; omega)] at b
    have k0 : k - ts.length = 0 := by
      have := (List.getElem?_eq_some_iff.mp a).1
      simp at this; omega
    rw [k0] at a
    rw [show k - prs.length = 0 by rw [← h.1]; exact k0] at b
    simp at a b
    subst a b
    exact ht
theorem TupsAt.cons {H : Hp} {ts : List Addr} {prs : List (Int × Int)} {t : Addr} {p : Int × Int} : TupsAt H (t :: ts) (p :: prs) ↔ H t = some (.tup [.int p.1, .int p.2]) ∧ TupsAt H ts prs :=
  ⟨fun h => ⟨h.2 0 t p rfl rfl, by have := h.1; simpa using this, fun k t' p' a b => h.2 (k + 1) t' p' (by simpa using a) (by simpa using b)⟩,
    fun ⟨a, b, c⟩ => ⟨by simp [b], fun k t' p' x y => match k, x, y with
      | 0, x, y => by cases x; cases y; exact a
      | k + 1, x, y => c k t' p' (by simpa using x) (by simpa using y)⟩⟩
theorem TupsAt.app {H : Hp} {ts us : List Addr} {prs qrs : List (Int × Int)} (h : TupsAt H ts prs) (g : TupsAt H us qrs) : TupsAt H (ts ++ us) (prs ++ qrs) := by
  induction ts generalizing prs with
  | nil =>
    have : prs = [] := List.length_eq_zero_iff.mp h.1.symm
    subst this
    exact g
  | cons t ts ih =>
    cases prs with
    | nil => have := h.1; simp at this
    | cons p prs =>
      obtain ⟨a, b⟩ := TupsAt.cons.mp h
      exact TupsAt.cons.mpr ⟨a, ih b⟩
def pd (p : Int × Int) : PyData := .tuple [.int p.1, .int p.2]
theorem dpP {K : PySem.W.Frag} {H : Hp} {t : Addr} {p : Int × Int} (h : H t = some (.tup [.int p.1, .int p.2])) : Dp K H (.ref t) (pd p) := .tup (.inl (.inl h)) (.cons (.int _) (.cons (.int _) .nil))
theorem dpPs {K : PySem.W.Frag} {H : Hp} : ∀ {ts : List Addr} {prs : List (Int × Int)}, TupsAt H ts prs → DpAll K H (ts.map V.ref) (prs.map pd)
  | [], [], _ => .nil
  | [], p :: prs, h => by have := h.1; simp at this
  | t :: ts, [], h => by have := h.1; simp at this
  | t :: ts, p :: prs, h => .cons (dpP (TupsAt.cons.mp h).1) (dpPs (TupsAt.cons.mp h).2)
theorem dpL {K : PySem.W.Frag} {H : Hp} {l : Addr} {ts : List Addr} {prs : List (Int × Int)} (h : H l = some (.lst (ts.map V.ref))) (t : TupsAt H ts prs) : Dp K H (.ref l) (.list (prs.map pd)) := .lst (.inl (.inl h)) (dpPs t)
theorem pd_can (p : Int × Int) : (pd p).canLay0 = true := by simp [pd, PyData.canLay0, PyData.canLayAll0]
theorem pd_dep (p : Int × Int) : (pd p).depth = 1 := by simp [pd, PyData.depth, PyData.depthAll]
theorem pds_can : ∀ prs : List (Int × Int), PyData.canLayAll0 (prs.map pd) = true
  | [] => rfl
  | p :: prs => by simp [PyData.canLayAll0, pd_can p, pds_can prs]
theorem pds_dep : ∀ prs : List (Int × Int), PyData.depthAll (prs.map pd) ≤ 1
  | [] => by simp [PyData.depthAll]
  | p :: prs => by
    have h1 := pds_dep prs
    have h2 := pd_dep p
    simp only [List.map_cons, PyData.depthAll]
    omega
theorem pd_shaped (p : Int × Int) : SeqAt.shaped (pd p) = true := by
  show ((pd p).canLay0 && decide ((pd p).depth ≤ 64)) = true
  rw [pd_can, pd_dep]; rfl
theorem pds_shaped (prs : List (Int × Int)) : SeqAt.shaped (.list (prs.map pd)) = true := by
  have h1 := pds_dep prs
  have h2 : PyData.depth (.list (prs.map pd)) ≤ 64 := by simp only [PyData.depth]; omega
  show (PyData.canLay0 (.list (prs.map pd)) && decide (PyData.depth (.list (prs.map pd)) ≤ 64)) = true
  simp [PyData.canLay0, pds_can, h2]
theorem pd_eqv (p q : Int × Int) : PyData.eqv (pd p) (pd q) = decide (p = q) := by
  obtain ⟨a, b⟩ := p
  obtain ⟨c, d⟩ := q
  by_cases h1 : a = c <;> by_cases h2 : b = d <;> simp [pd, PyData.eqv, PyData.eqvAll, h1, h2]
theorem pds_any (prs : List (Int × Int)) (p : Int × Int) : ((prs.map pd).any fun z => PyData.eqv z (pd p)) = decide (p ∈ prs) := by
  induction prs with
  | nil => rfl
  | cons q prs ih =>
    rw [List.map_cons, List.any_cons, ih, pd_eqv]
    by_cases h : q = p
    · simp [h]
    · simp [h, Ne.symm h]
theorem pds_eqv (prs qrs : List (Int × Int)) : PyData.eqv (.list (prs.map pd)) (.list (qrs.map pd)) = decide (prs = qrs) := by
  rw [PyData.eqv]
  induction prs generalizing qrs with
  | nil =>
    cases qrs with
    | nil => simp [PyData.eqvAll]
    | cons q qrs => simp [PyData.eqvAll]
  | cons p prs ih =>
    cases qrs with
    | nil => simp [PyData.eqvAll]
    | cons q qrs =>
      rw [List.map_cons, List.map_cons, PyData.eqvAll, ih, pd_eqv]
      by_cases h : p = q <;> simp [h]
def LsP (H : Hp) (l : Addr) (prs : List (Int × Int)) : Prop := ∃ ts : List Addr, H l = some (.lst (ts.map V.ref)) ∧ TupsAt H ts prs
theorem LsP.up {H H' : Hp} {l : Addr} {prs : List (Int × Int)} (h : LsP H l prs) (e : Ex H H') : LsP H' l prs := let ⟨ts, a, b⟩ := h; ⟨ts, e _ _ a, b.up e⟩
theorem LsP.dp {K : PySem.W.Frag} {H : Hp} {l : Addr} {prs : List (Int × Int)} (h : LsP H l prs) : Dp K H (.ref l) (.list (prs.map pd)) := let ⟨_, a, b⟩ := h; dpL a b
theorem tups_uniq {H : Hp} {ts : List Addr} {prs qrs : List (Int × Int)} (h : TupsAt H ts prs) (g : TupsAt H ts qrs) : prs = qrs := by
  refine List.ext_getElem? fun k => ?_
  by_cases hk : k < ts.length
  · have a := h.2 k _ _ (List.getElem?_eq_getElem hk) (List.getElem?_eq_getElem (by rw [← h.1]; exact hk))
    have b := g.2 k _ _ (List.getElem?_eq_getElem hk) (List.getElem?_eq_getElem (by rw [← g.1]; exact hk))
    rw [a] at b
    rw [List.getElem?_eq_getElem (by rw [← h.1]; exact hk), List.getElem?_eq_getElem (by rw [← g.1]; exact hk)]
    have e := HO.tup.inj (Option.some.inj b)
    simp at e
    exact congrArg some (Prod.ext e.1 e.2)
  · rw [List.getElem?_eq_none (by rw [← h.1]; omega), List.getElem?_eq_none (by rw [← g.1]; omega)]
theorem LsP.uniq {H : Hp} {l : Addr} {prs qrs : List (Int × Int)} (h : LsP H l prs) (g : LsP H l qrs) : qrs = prs := by
  obtain ⟨ts, a, b⟩ := h
  obtain ⟨us, c, d⟩ := g
  rw [a] at c
  have e : ts = us := (List.map_inj_right (fun x y h => by cases h; rfl)).mp (HO.lst.inj (Option.some.inj c))
  subst e
  exact tups_uniq d b
theorem lsP_ex {H : Hp} {l : Addr} {prs : List (Int × Int)} {R : List (Int × Int) → Prop} (h : LsP H l prs) : (∃ qrs, LsP H l qrs ∧ R qrs) ↔ R prs := ⟨fun ⟨_, a, b⟩ => by rw [← h.uniq a]; exact b, fun r => ⟨prs, h, r⟩⟩
def PrA (H : Hp) (t : Addr) (p : Int × Int) : Prop := H t = some (.tup [.int p.1, .int p.2])
theorem PrA.of {H : Hp} {t : Addr} {a b : Int} (h : H t = some (.tup [.int a, .int b])) : PrA H t (a, b) := h
theorem prA_ex {H : Hp} {t : Addr} {p : Int × Int} {R : Int × Int → Prop} (h : PrA H t p) : (∃ q, PrA H t q ∧ R q) ↔ R p := ⟨fun ⟨q, a, b⟩ => by
  unfold PrA at h a
  rw [h] at a
  have e := HO.tup.inj (Option.some.inj a)
  simp at e
  have : p = q := Prod.ext e.1 e.2
  rw [this]; exact b, fun r => ⟨p, h, r⟩⟩
section
variable {X : Cx}
def jInP : R2 := fun x y H Q => ∃ t l, x = .ref t ∧ y = .ref l ∧ ∃ p, PrA H t p ∧ ∃ prs, LsP H l prs ∧ Q (.bl (decide (p ∈ prs))) H
def jNotInP : R2 := fun x y H Q => ∃ t l, x = .ref t ∧ y = .ref l ∧ ∃ p, PrA H t p ∧ ∃ prs, LsP H l prs ∧ Q (.bl (!decide (p ∈ prs))) H
def jEqP : R2 := fun x y H Q => ∃ t l, x = .ref t ∧ y = .ref l ∧ ∃ prs, LsP H t prs ∧ ∃ qrs, LsP H l qrs ∧ Q (.bl (decide (prs = qrs))) H
def jNeP : R2 := fun x y H Q => ∃ t l, x = .ref t ∧ y = .ref l ∧ ∃ prs, LsP H t prs ∧ ∃ qrs, LsP H l qrs ∧ Q (.bl (!decide (prs = qrs))) H
theorem op_inP (hu : X.A.units + 65 < cLine) : OpR X (compareOp .In) jInP := opBy (op_inD hu) fun x y H Q ⟨t, l, e1, e2, p, h1, prs, h2, q⟩ => ⟨pd p, prs.map pd, by rw [e1]; exact dpP h1, by rw [e2]; exact h2.dp, pd_shaped p, pds_shaped prs, by rw [pds_any]; exact q⟩
theorem op_notInP (hu : X.A.units + 65 < cLine) : OpR X (compareOp .NotIn) jNotInP := opBy (op_notInD hu) fun x y H Q ⟨t, l, e1, e2, p, h1, prs, h2, q⟩ => ⟨pd p, prs.map pd, by rw [e1]; exact dpP h1, by rw [e2]; exact h2.dp, pd_shaped p, pds_shaped prs, by rw [pds_any]; exact q⟩
theorem op_eqP (hu : X.A.units + 64 < cLine) : OpR X (compareOp .Eq) jEqP := opBy (op_eqD hu) fun x y H Q ⟨t, l, e1, e2, prs, h1, qrs, h2, q⟩ => ⟨_, _, by rw [e1]; exact h1.dp, by rw [e2]; exact h2.dp, pds_shaped prs, pds_shaped qrs, by rw [pds_eqv]; exact q⟩
theorem op_neP (hu : X.A.units + 64 < cLine) : OpR X (compareOp .NotEq) jNeP := opBy (op_neD hu) fun x y H Q ⟨t, l, e1, e2, prs, h1, qrs, h2, q⟩ => ⟨_, _, by rw [e1]; exact h1.dp, by rw [e2]; exact h2.dp, pds_shaped prs, pds_shaped qrs, by rw [pds_eqv]; exact q⟩
@[simp] theorem j_inP {t l : Addr} {H : Hp} {Q : VK} : jInP (.ref t) (.ref l) H Q = ∃ p, PrA H t p ∧ ∃ prs, LsP H l prs ∧ Q (.bl (decide (p ∈ prs))) H := by simp [jInP]
@[simp] theorem j_notInP {t l : Addr} {H : Hp} {Q : VK} : jNotInP (.ref t) (.ref l) H Q = ∃ p, PrA H t p ∧ ∃ prs, LsP H l prs ∧ Q (.bl (!decide (p ∈ prs))) H := by simp [jNotInP]
@[simp] theorem j_eqP {t l : Addr} {H : Hp} {Q : VK} : jEqP (.ref t) (.ref l) H Q = ∃ prs, LsP H t prs ∧ ∃ qrs, LsP H l qrs ∧ Q (.bl (decide (prs = qrs))) H := by simp [jEqP]
@[simp] theorem j_neP {t l : Addr} {H : Hp} {Q : VK} : jNeP (.ref t) (.ref l) H Q = ∃ prs, LsP H t prs ∧ ∃ qrs, LsP H l qrs ∧ Q (.bl (!decide (prs = qrs))) H := by simp [jNeP]
/-! lists of ints -/
def LsI (H : Hp) (l : Addr) (ns : List Int) : Prop := H l = some (.lst (ns.map V.int))
theorem LsI.uniq {H : Hp} {l : Addr} {ns ms : List Int} (h : LsI H l ns) (g : LsI H l ms) : ms = ns := by
  unfold LsI at h g
  rw [h] at g
  exact ((List.map_inj_right (fun x y h => by cases h; rfl)).mp (HO.lst.inj (Option.some.inj g))).symm
theorem lsI_ex {H : Hp} {l : Addr} {ns : List Int} {R : List Int → Prop} (h : LsI H l ns) : (∃ ms, LsI H l ms ∧ R ms) ↔ R ns := ⟨fun ⟨_, a, b⟩ => by rw [← h.uniq a]; exact b, fun r => ⟨ns, h, r⟩⟩
theorem dpIs {K : PySem.W.Frag} {H : Hp} : ∀ ns : List Int, DpAll K H (ns.map V.int) (ns.map PyData.int)
  | [] => .nil
  | n :: ns => .cons (.int n) (dpIs ns)
theorem dpI {K : PySem.W.Frag} {H : Hp} {l : Addr} {ns : List Int} (h : LsI H l ns) : Dp K H (.ref l) (.list (ns.map .int)) := .lst (.inl (.inl h)) (dpIs ns)
theorem is_can : ∀ ns : List Int, PyData.canLayAll0 (ns.map PyData.int) = true
  | [] => rfl
  | n :: ns => by simp [PyData.canLayAll0, PyData.canLay0, is_can ns]
theorem is_dep : ∀ ns : List Int, PyData.depthAll (ns.map PyData.int) = 0
  | [] => rfl
  | n :: ns => by simp [PyData.depthAll, PyData.depth, is_dep ns]
theorem is_shaped (ns : List Int) : SeqAt.shaped (.list (ns.map PyData.int)) = true := by
  show (PyData.canLay0 (.list (ns.map PyData.int)) && decide (PyData.depth (.list (ns.map PyData.int)) ≤ 64)) = true
  simp [PyData.canLay0, is_can, PyData.depth, is_dep]
theorem is_eqv (ns ms : List Int) : PyData.eqv (.list (ns.map PyData.int)) (.list (ms.map PyData.int)) = decide (ns = ms) := by
  rw [PyData.eqv]
  induction ns generalizing ms with
  | nil => cases ms <;> simp [PyData.eqvAll]
  | cons n ns ih =>
    cases ms with
    | nil => simp [PyData.eqvAll]
    | cons m ms =>
      rw [List.map_cons, List.map_cons, PyData.eqvAll, ih]
      by_cases h : n = m <;> simp [PyData.eqv, h]
def jEqI : R2 := fun x y H Q => ∃ t l, x = .ref t ∧ y = .ref l ∧ ∃ prs, LsI H t prs ∧ ∃ qrs, LsI H l qrs ∧ Q (.bl (decide (prs = qrs))) H
def jNeI : R2 := fun x y H Q => ∃ t l, x = .ref t ∧ y = .ref l ∧ ∃ prs, LsI H t prs ∧ ∃ qrs, LsI H l qrs ∧ Q (.bl (!decide (prs = qrs))) H
theorem op_eqI (hu : X.A.units + 64 < cLine) : OpR X (compareOp .Eq) jEqI := opBy (op_eqD hu) fun x y H Q ⟨t, l, e1, e2, prs, h1, qrs, h2, q⟩ => ⟨_, _, by rw [e1]; exact dpI h1, by rw [e2]; exact dpI h2, is_shaped prs, is_shaped qrs, by rw [is_eqv]; exact q⟩
theorem op_neI (hu : X.A.units + 64 < cLine) : OpR X (compareOp .NotEq) jNeI := opBy (op_neD hu) fun x y H Q ⟨t, l, e1, e2, prs, h1, qrs, h2, q⟩ => ⟨_, _, by rw [e1]; exact dpI h1, by rw [e2]; exact dpI h2, is_shaped prs, is_shaped qrs, by rw [is_eqv]; exact q⟩
@[simp] theorem j_eqI {t l : Addr} {H : Hp} {Q : VK} : jEqI (.ref t) (.ref l) H Q = ∃ prs, LsI H t prs ∧ ∃ qrs, LsI H l qrs ∧ Q (.bl (decide (prs = qrs))) H := by simp [jEqI]
@[simp] theorem j_neI {t l : Addr} {H : Hp} {Q : VK} : jNeI (.ref t) (.ref l) H Q = ∃ prs, LsI H t prs ∧ ∃ qrs, LsI H l qrs ∧ Q (.bl (!decide (prs = qrs))) H := by simp [jNeI]
/-! sorted(xs), xs a list of pairs -/
def pOf (H : Hp) : V → Int × Int
  | .ref q => match H q with
    | some (.tup [.int i, .int j]) => (i, j)
    | _ => (0, 0)
  | _ => (0, 0)
theorem pOf_at {H : Hp} {t : Addr} {p : Int × Int} (h : H t = some (.tup [.int p.1, .int p.2])) : pOf H (.ref t) = p := by simp [pOf, h]
theorem pOf_map {H : Hp} : ∀ {ts : List Addr} {prs : List (Int × Int)}, TupsAt H ts prs → (ts.map V.ref).map (pOf H) = prs
  | [], [], _ => rfl
  | [], p :: prs, h => by have := h.1; simp at this
  | t :: ts, [], h => by have := h.1; simp at this
  | t :: ts, p :: prs, h => by
    rw [List.map_cons, List.map_cons, pOf_at (TupsAt.cons.mp h).1, pOf_map (TupsAt.cons.mp h).2]
theorem tups_of {H : Hp} : ∀ {ts : List Addr}, (∀ t ∈ ts, H t = some (.tup [.int (pOf H (.ref t)).1, .int (pOf H (.ref t)).2])) → TupsAt H ts ((ts.map V.ref).map (pOf H))
  | [], _ => TupsAt.nil H
  | t :: ts, h => TupsAt.cons.mpr ⟨h t (by simp), tups_of fun u hu => h u (by simp [hu])⟩
def jSortP : List V → Hp → VK → Prop := fun vs H Q => ∃ l, vs = [.ref l] ∧ ∃ prs, LsP H l prs ∧ ∀ qrs D H', qrs.Perm prs → qrs.Pairwise lexLe → H D = none → Ex H H' → LsP H' D qrs → Q (.ref D) H'
@[simp] theorem j_sortP {l : Addr} {H : Hp} {Q : VK} : jSortP [.ref l] H Q = ∃ prs, LsP H l prs ∧ ∀ qrs D H', qrs.Perm prs → qrs.Pairwise lexLe → H D = none → Ex H H' → LsP H' D qrs → Q (.ref D) H' := by simp [jSortP]
theorem tup_at {H : Hp} {ts : List Addr} {prs : List (Int × Int)} (h : TupsAt H ts prs) {x : V} (hx : x ∈ ts.map V.ref) : ∃ t, x = .ref t ∧ t ∈ ts ∧ H t = some (.tup [.int (pOf H x).1, .int (pOf H x).2]) := by
  obtain ⟨t, ht, rfl⟩ := List.mem_map.mp hx
  obtain ⟨k, hk, e⟩ := List.mem_iff_getElem.mp ht
  have hk' : k < prs.length := by rw [← h.1]; exact hk
  have z := h.2 k t prs[k] (by rw [List.getElem?_eq_getElem hk, e]) (List.getElem?_eq_getElem hk')
  exact ⟨t, rfl, ht, by rw [pOf_at z]; exact z⟩
theorem call_sortP : CallR X (.builtin "sorted") jSortP := callBy cr_sortedPO fun vs H Q ⟨l, e, prs, ⟨ts, h1, h2⟩, q⟩ => by
  refine ⟨l, ts.map V.ref, pOf H, e, .inl (.inl h1), fun x hx => ?_, fun ys D s1 s2 hD => ?_⟩
  · obtain ⟨t, a, _, b⟩ := tup_at h2 hx
    exact ⟨t, a, b⟩
  · have hall : ∀ y ∈ ys, ∃ t, y = V.ref t ∧ t ∈ ts ∧ H t = some (.tup [.int (pOf H y).1, .int (pOf H y).2]) := fun y hy => tup_at h2 (s2.perm.mem_iff.mp hy)
    let adr : V → Addr := fun v => match v with | .ref t => t | _ => 0
    have ey : ys = (ys.map adr).map V.ref := by
      rw [List.map_map]
      refine List.ext_getElem (by simp) fun i h1 h2 => ?_
      obtain ⟨t, a, _⟩ := hall ys[i] (List.getElem_mem h1)
      simp [a, adr]
    have ex : Ex H (L2.upd H D (.lst ys)) := Ex.new hD
    refine q (ys.map (pOf H)) D _ ?_ ?_ hD ex ⟨ys.map adr, by rw [← ey]; exact upd_same, ?_⟩
    · rw [← pOf_map h2]
      exact s2.perm.map _
    · rw [List.pairwise_map]
      refine List.Pairwise.imp ?_ s1
      intro a b hab
      have z := SrtO.lexB_no.mp hab
      unfold lexLe
      omega
    · have h3 : TupsAt H (ys.map adr) (((ys.map adr).map V.ref).map (pOf H)) := tups_of fun t ht => by
        obtain ⟨y, hy, rfl⟩ := List.mem_map.mp ht
        obtain ⟨t, rfl, _, b⟩ := hall y hy
        exact b
      rw [← ey] at h3
      exact h3.up ex
/-! list(range(n)), l.pop(i), l.clear(), slices -/
def jLstR (ta : TE) : TE := fun σ H Q => ta σ H fun x H1 => ∃ n : Nat, x = .int n ∧ n ≤ 10000 ∧ ∀ q H2, H1 q = none → Ex H1 H2 → LsI H2 q ((List.range n).map fun (i : Nat) => (i : Int)) → Q (.ref q) H2
@[simp] theorem j_lstR {ta : TE} {σ : L2.St} {H : Hp} {Q : VK} : jLstR ta σ H Q = ta σ H fun x H1 => ∃ n : Nat, x = .int n ∧ n ≤ 10000 ∧ ∀ q H2, H1 q = none → Ex H1 H2 → LsI H2 q ((List.range n).map fun (i : Nat) => (i : Int)) → Q (.ref q) H2 := rfl
theorem pe_lstR {e : Expr} {ta : TE} {p pos p2 pos2 : Pos} (hc : X.calm = true) (hg : Gl X "list") (hm : X.mg "list" = none) (hg2 : Gl X "range") (hm2 : X.mg "range" = none) (he : PE X e ta) (na : starEach [e] X.env = (false, eval e X.env) :: starEach [] X.env := by rfl)
    (nb : starEach [.Call (.Name "range" p2) [e] [] pos2] X.env = (false, eval (.Call (.Name "range" p2) [e] [] pos2) X.env) :: starEach [] X.env := by rfl) : PE X (.Call (.Name "list" p) [.Call (.Name "range" p2) [e] [] pos2] [] pos) (jLstR ta) :=
  (pe_listRg hc hg hm (prg_1 hg2 hm2 he.cl na) nb).by fun σ H Q q => ⟨_, q, fun x H1 ⟨n, e, hn, k⟩ => by
    refine ⟨n, e, RgOk.of_le (by omega) (by omega) (by omega) (by omega), fun z hz => k z _ hz (Ex.new hz) ?_⟩
    unfold LsI
    rw [upd_same]
    unfold rgV
    rw [List.map_map, show ((n : Int) - 0).toNat = n by omega]
    congr 2
    refine List.map_congr_left fun i _ => ?_
    show V.int (0 + (i : Int)) = V.int i
    rw [Int.zero_add]⟩
def jPopA : V → List V → Hp → VK → Prop := fun x vs H Q => ∃ l i xs y, x = .ref l ∧ vs = [.int i] ∧ H l = some (.lst xs) ∧ 0 ≤ i ∧ xs[i.toNat]? = some y ∧ xs.length ≤ 100000 ∧ Q y (L2.upd H l (.lst (xs.eraseIdx i.toNat)))
@[simp] theorem j_popA {l : Addr} {i : Int} {H : Hp} {Q : VK} : jPopA (.ref l) [.int i] H Q = ∃ xs y, H l = some (.lst xs) ∧ 0 ≤ i ∧ xs[i.toNat]? = some y ∧ xs.length ≤ 100000 ∧ Q y (L2.upd H l (.lst (xs.eraseIdx i.toNat))) := by simp [jPopA]
theorem mt_popA : MtM X "list.pop" jPopA := fun pins s σ H x vs v us Q I rx rv ⟨l, i, xs, y, e1, e2, h, h0, hy, hl, q⟩ => mt_popAt pins s σ H x vs v us Q I rx rv (by
  have hlt : i.toNat < xs.length := (List.getElem?_eq_some_iff.mp hy).1
  have hi : i < (xs.length : Int) := by omega
  refine ⟨l, xs, i, i.toNat, y, e1, e2, h, by omega, by omega, ?_, hy, q⟩
  simp [seqIndex?, show ¬ i < 0 by omega, h0, hi])
@[simp] theorem j_clear {l : Addr} {H : Hp} {Q : VK} : rClear (.ref l) [] H Q = ∃ xs, H l = some (.lst xs) ∧ Q .non (L2.upd H l (.lst [])) := by simp [rClear]
def loN : Option Int → Nat
  | some i => i.toNat
  | none => 0
def hiT (xs : List V) : Option Int → List V
  | some i => xs.take i.toNat
  | none => xs
@[simp] theorem loN_some (i : Int) : loN (some i) = i.toNat := rfl
@[simp] theorem loN_none : loN none = 0 := rfl
@[simp] theorem hiT_some (xs : List V) (i : Int) : hiT xs (some i) = xs.take i.toNat := rfl
@[simp] theorem hiT_none (xs : List V) : hiT xs none = xs := rfl
/-- xs[lo:hi], its bounds whole numbers from 0 on or none -/
def jSlL : V → Option Int → Option Int → Hp → VK → Prop := fun x lo hi H Q => ∃ a xs, x = .ref a ∧ H a = some (.lst xs) ∧ (∀ i, lo = some i → 0 ≤ i) ∧ (∀ i, hi = some i → 0 ≤ i) ∧
  ∀ p H2, H p = none → Ex H H2 → H2 p = some (.lst ((hiT xs hi).drop (loN lo))) → Q (.ref p) H2
@[simp] theorem j_slL {a : Addr} {lo hi : Option Int} {H : Hp} {Q : VK} : jSlL (.ref a) lo hi H Q = ∃ xs, H a = some (.lst xs) ∧ (∀ i, lo = some i → 0 ≤ i) ∧ (∀ i, hi = some i → 0 ≤ i) ∧
  ∀ p H2, H p = none → Ex H H2 → H2 p = some (.lst ((hiT xs hi).drop (loN lo))) → Q (.ref p) H2 := by simp [jSlL]
theorem cut_eq (xs : List V) (lo hi : Option Int) (h1 : ∀ i, lo = some i → 0 ≤ i) (h2 : ∀ i, hi = some i → 0 ≤ i) : cutV xs lo hi = (hiT xs hi).drop (loN lo) := by
  unfold cutV HT.sIx
  cases lo with
  | none =>
    cases hi with
    | none => simp
    | some j =>
      have := h2 j rfl
      simp only
      rw [if_neg (by omega)]
      simp
  | some i =>
    have a := h1 i rfl
    cases hi with
    | none =>
      simp only [loN_some, hiT_none]
      rw [if_neg (by omega)]
      by_cases h : i.toNat ≤ xs.length
      · rw [Nat.min_eq_left h, ← List.length_drop, List.take_length]
      · rw [Nat.min_eq_right (by omega), Nat.sub_self, List.take_zero, List.drop_eq_nil_of_le (by omega)]
    | some j =>
      have b := h2 j rfl
      simp only [loN_some, hiT_some]
      rw [if_neg (by omega), if_neg (by omega)]
      by_cases h : i.toNat ≤ xs.length
      · rw [Nat.min_eq_left h, List.drop_take]
        by_cases g : j.toNat ≤ xs.length
        · rw [Nat.min_eq_left g]
        · rw [Nat.min_eq_right (by omega), List.take_of_length_le (by rw [List.length_drop]; exact Nat.le_refl _), List.take_of_length_le (by rw [List.length_drop]; omega)]
      · rw [show min i.toNat xs.length = xs.length by omega, List.drop_eq_nil_of_le (Nat.le_refl _), List.take_nil, List.drop_eq_nil_of_le]
        rw [List.length_take]; omega
theorem sl_lstJ : SlR X jSlL := fun pins s σ H x v vl vu lo hi sl Q I rx hs pl pu ⟨a, xs, e, h, h1, h2, k⟩ => sl_list pins s σ H x v vl vu lo hi sl Q I rx hs pl pu ⟨a, xs, e, .inl (.inl h), fun p hp => by
  have z := k p (L2.upd H p (.lst (cutV xs lo hi))) hp (Ex.new hp) (by rw [upd_same, cut_eq xs lo hi h1 h2])
  exact z⟩
def jSlice (te : TE) (tl th : TO) : TE := tSl jSlL te tl th
@[simp] theorem j_slice {te : TE} {tl th : TO} {σ : L2.St} {H : Hp} {Q : VK} : tSl jSlL te tl th σ H Q = te σ H fun x H1 => tl σ H1 fun l H2 => th σ H2 fun u H3 => jSlL x l u H3 Q := rfl
@[simp] theorem j_noPart {σ : L2.St} {H : Hp} {Q : Option Int → Hp → Prop} : tNoPart σ H Q = Q none H := rfl
@[simp] theorem j_part {t : TE} {σ : L2.St} {H : Hp} {Q : Option Int → Hp → Prop} : tPart t σ H Q = t σ H fun x H1 => ∃ i, x = .int i ∧ Q (some i) H1 := rfl
end
theorem _root_.L2.Room.u65 {A : Around} {k : Nat} (hr : Room k A) : A.units + 65 < cLine := by have := hr.un; omega
end Jk

namespace Jk
open PySem PySem.Spec PyProof.Rows L2 Evl
/-! ## len(set(xs)), xs a list of ints, some of them alike perhaps -/
theorem met_len (f : Nat → Int) : ∀ n : Nat, (PyProof.Rows.firstMet f n).length ≤ n ∧ (¬ ((List.range n).map f).Nodup → (PyProof.Rows.firstMet f n).length < n) ∧ (((List.range n).map f).Nodup → (PyProof.Rows.firstMet f n).length = n)
  | 0 => ⟨Nat.le_refl _, fun h => absurd List.nodup_nil h, fun _ => rfl⟩
  | n + 1 => by
    obtain ⟨i1, i2, i3⟩ := met_len f n
    have hd : ((List.range (n + 1)).map f).Nodup ↔ ((List.range n).map f).Nodup ∧ ¬ f n ∈ (List.range n).map f := by
      rw [List.range_succ, List.map_append]
      show ((List.range n).map f ++ [f n]).Nodup ↔ _
      rw [List.nodup_append]
      constructor
      · rintro ⟨a, _, c⟩
        exact ⟨a, fun z => c _ z _ (by simp) rfl⟩
      · rintro ⟨a, b⟩
        exact ⟨a, by simp, fun x hx y hy e => b (by simp at hy; rw [← hy, ← e]; exact hx)⟩
    have ha : (PyProof.Rows.firstMet f n).any (· == f n) = decide (f n ∈ (List.range n).map f) := by
      rw [PyProof.Rows.firstMet_any]
      rw [Bool.eq_iff_iff]
      rw [List.any_eq_true, decide_eq_true_iff]
      constructor
      · rintro ⟨x, hx, e⟩
        rw [← eq_of_beq e]; exact hx
      · exact fun h => ⟨_, h, beq_self_eq_true _⟩
    rw [PyProof.Rows.firstMet_succ]
    unfold PyProof.Rows.step_dedup
    rw [ha]
    by_cases hm : f n ∈ (List.range n).map f
    · rw [if_pos (decide_eq_true hm)]
      exact ⟨by omega, fun _ => by omega, fun z => absurd hm (hd.mp z).2⟩
    · rw [if_neg (by simp only [decide_eq_true_eq]; exact hm), List.length_append]
      refine ⟨by simp; omega, fun z => ?_, fun z => ?_⟩
      · have : ¬ ((List.range n).map f).Nodup := fun y => z (hd.mpr ⟨y, hm⟩)
        have := i2 this
        simp; omega
      · have := i3 (hd.mp z).1
        simp; omega
theorem met_list (ns : List Int) : (List.range ns.length).map (fun i => ns.getD i 0) = ns := by
  refine List.ext_getElem (by simp) fun i h1 h2 => ?_
  rw [List.getElem_map, List.getElem_range, List.getD_eq_getElem?_getD, List.getElem?_eq_getElem h2]
  rfl
def jLenSet (ta : TE) : TE := fun σ H Q => ta σ H fun x H1 => ∃ (l : Addr), x = .ref l ∧ ∃ (ns : List Int), LsI H1 l ns ∧ ns.length ≤ 1000 ∧ ∀ m : Nat, (m = ns.length ↔ ns.Nodup) → Q (.int m) H1
@[simp] theorem j_lenSet {ta : TE} {σ : L2.St} {H : Hp} {Q : VK} : jLenSet ta σ H Q = ta σ H fun x H1 => ∃ (l : Addr), x = .ref l ∧ ∃ (ns : List Int), LsI H1 l ns ∧ ns.length ≤ 1000 ∧ ∀ m : Nat, (m = ns.length ↔ ns.Nodup) → Q (.int m) H1 := rfl
theorem pe_lenSetJ {X : Cx} {a : Expr} {ta : TE} {p p2 pos pos2 : Pos} (hc : X.calm = true) (g1 : Gl X "len") (m1 : X.mg "len" = none) (g2 : Gl X "set") (m2 : X.mg "set" = none) (ha : PE X a ta)
    (na : starEach [a] X.env = (false, eval a X.env) :: starEach [] X.env := by rfl) : PE X (.Call (.Name "len" p) [.Call (.Name "set" p2) [a] [] pos2] [] pos) (jLenSet ta) := by
  refine ⟨fun pins s σ H Q I h => Call_ (ld_blt I g1 m1 PySem.boot_len (PyProof.Rows.callWith_builtin1 (PyProof.Rows.args_cons (Call_ (ld_blt I g2 m2 PyProof.Rows.boot_set ?_)) rfl) rfl rfl))⟩
  refine PyProof.Rows.callWith_type1 (PyProof.Rows.args_cons (thn (ha.run pins s σ H _ I h) ?_) na) na rfl
  rintro v s1 ⟨x, H1, I1, r1, l, rfl, ns, hq, hlen, q1⟩
  refine PyProof.Rows.args_nil ?_
  cases r1
  obtain ⟨its, r, pl, hz⟩ := I1.list (.inl (.inl hq))
  have en : its.toArray.size = ns.length := by simpa using r.length.symm
  refine call_set_list (I1.ok.hd hc) pl.isList (ns := ns) (by simpa using r.ints) (by unfold scanBound; omega) fun h2 tk hS hk => PyProof.Rows.args_nil ?_
  rw [en] at hS
  obtain ⟨o, es, ep, t, ho, hex, hd, _, _, _, hf, hn⟩ := hS
  obtain ⟨k1, k2, k3⟩ := met_len (fun i => ns.getD i 0) ns.length
  rw [met_list] at k2 k3
  have J : Inv X pins σ H1 { s1 with heap := h2, toks := tk } := I1.kept fun b o e => hk b o (Heap.lt_size e) e
  refine call_len_set ho hex hd hf (by rw [hn]; omega) ⟨.int (PyProof.Rows.firstMet (fun i => ns.getD i 0) ns.length).length, H1, J.tok _, ⟨_, by rw [hn]⟩, q1 _ ⟨fun e => ?_, k3⟩⟩
  by_cases hh : ns.Nodup
  · exact hh
  · have := k2 hh; omega
theorem erase_perm {α : Type} : ∀ (l : List α) (i : Nat) (x : α), l[i]? = some x → (x :: l.eraseIdx i).Perm l
  | [], i, x, h => by simp at h
  | a :: l, 0, x, h => by
    simp at h
    subst h
    exact List.Perm.refl _
  | a :: l, i + 1, x, h => (List.Perm.swap a x _).trans ((erase_perm l i x (by simpa using h)).cons a)
/-! isinstance(x, C), x an object made by C -/
structure IsC (K : PySem.W.Frag) (C : Addr) : Prop where
  ha : PySem.W.findIn K (.ref C) "__class__" = some (some (.builtin "object.__class__"))
  hn : PySem.W.specialIn K (.builtin "object.__class__") "__get__" = some (some (.builtin "getset_descriptor.__get__"))
  ht : PySem.W.takesIn K (.builtin "object.__class__") = some true
  hm : PySem.W.mroIn K C (.type "object") = some true
def jIsC (K : PySem.W.Frag) : List V → Hp → VK → Prop := fun xs H Q => ∃ a C, xs = [.ref a, .ref C] ∧ (∃ dx fs, H a = some (.ins C dx fs)) ∧ Cls K C ∧ IsC K C ∧ Q (.bl true) H
@[simp] theorem j_isC {K : PySem.W.Frag} {a C : Addr} {H : Hp} {Q : VK} : jIsC K [.ref a, .ref C] H Q = ((∃ dx fs, H a = some (.ins C dx fs)) ∧ Cls K C ∧ IsC K C ∧ Q (.bl true) H) := propext ⟨fun ⟨_, _, e, r⟩ => by cases e; exact r, fun r => ⟨_, _, rfl, r⟩⟩
theorem call_isC {X : Cx} {K0 : PySem.W.Frag} (hK : X.K = K0 := by rfl) : CallR X (.builtin "isinstance") (jIsC K0) := by
  subst hK
  exact callBy call_isi fun xs H Q ⟨a, C, e, ⟨dx, fs, h⟩, cl, ic, q⟩ => ⟨.ref a, .ref C, .ref C, .ref C, true, e, .own C, .base (.ins h cl ic.ha ic.hn ic.ht ic.hm), if_pos (beq_self_eq_true _), q⟩
@[simp] theorem j_callS {sp : Sp} {E : L2.St → XK} {tr : TA} {σ : L2.St} {H : Hp} {Q : VK} : tCallS sp E tr σ H Q = tr σ H fun vs H1 => sp vs H1 Q (E σ) := rfl
@[simp] theorem j_cat {l b : Addr} {H : Hp} {Q : VK} : jCat (.ref l) (.ref b) H Q = ∃ xs, H l = some (.lst xs) ∧ ∃ zs, H b = some (.lst zs) ∧ xs.length + zs.length ≤ 100000 ∧ ∀ p H2, H p = none → Ex H H2 → H2 p = some (.lst (xs ++ zs)) → Q (.ref p) H2 := by
  unfold jCat
  refine propext ⟨fun ⟨l', b', xs, zs, e1, e2, h1, h2, h3, k⟩ => ?_, fun ⟨xs, h1, zs, h2, h3, k⟩ => ⟨l, b, xs, zs, rfl, rfl, h1, h2, h3, k⟩⟩
  cases e1
  cases e2
  exact ⟨xs, h1, zs, h2, h3, k⟩
def jTupL : List V → Hp → VK → Prop := fun vs H Q => ∃ p, vs = [.ref p] ∧ ∃ xs, H p = some (.lst xs) ∧ ∀ l H2, H l = none → Ex H H2 → H2 l = some (.tup xs) → Q (.ref l) H2
@[simp] theorem j_tupL {p : Addr} {H : Hp} {Q : VK} : jTupL [.ref p] H Q = ∃ xs, H p = some (.lst xs) ∧ ∀ l H2, H l = none → Ex H H2 → H2 l = some (.tup xs) → Q (.ref l) H2 := by simp [jTupL]
theorem call_tupJ {X : Cx} : CallR X (.type "tuple") jTupL := callBy call_tuple_of fun vs H Q ⟨p, e, xs, h, q⟩ => ⟨p, xs, e, .inl ⟨.inl (.inl h), fun l hl => q l _ hl (Ex.new hl) upd_same⟩⟩
@[simp] theorem j_list {p : Addr} {H : Hp} {Q : VK} {xs : List V} : (jList [.ref p] H Q ∧ H p = some (.lst xs)) = ((∀ l H2, H l = none → Ex H H2 → H2 l = some (.lst xs) → Q (.ref l) H2) ∧ H p = some (.lst xs)) := by
  unfold jList
  refine propext ⟨fun ⟨⟨p', ys, e, h, q⟩, h'⟩ => ?_, fun ⟨q, h'⟩ => ⟨⟨p, xs, rfl, .inl h', q⟩, h'⟩⟩
  cases e
  rcases h with h | h
  · rw [h'] at h
    cases h
    exact ⟨q, h'⟩
  · rw [h'] at h
    cases h
end Jk

namespace Jk
open PySem PySem.Spec PySem.Calls PyProof.Rows L2 Evl
/-! ## sorted(xs, key=f), f a def of the program: a new list, sorted by whole numbers -/
/-- two raw objects of ours have changed, and one of them is tracked from now on -/
theorem inv_take2 {X : Cx} {pins : List (Addr × Obj)} {σ : L2.St} {H : Hp} {s : Shared} {h2 : Heap} {tk : Nat} {a b : Addr} {o : HO} (I : L2.Inv X pins σ H s) (k : ∀ c ob, c ≠ a → c ≠ b → s.heap.get? c = some ob → h2.get? c = some ob)
    (fa : FpOk X pins H a) (fb : FpOk X pins H b) (new : ObjOk X.prog X.w (upd H a o) h2 a o) : L2.Inv X pins σ (upd H a o) { s with heap := h2, toks := tk } := by
  obtain ⟨an, aL, _, a1, a2, a3⟩ := fa
  obtain ⟨bn, bL, _, b1, b2, b3⟩ := fb
  have na : ∀ c u, H c = some u → c ≠ a := fun c u e z => by rw [z, an] at e; cases e
  have nb : ∀ c u, H c = some u → c ≠ b := fun c u e z => by rw [z, bn] at e; cases e
  have up : ∀ c u, H c = some u → upd H a o c = some u := fun c u e => by rw [upd_ne (na c u e)]; exact e
  refine I.step (g' := s.gens) (d' := s.drawn) (ch := [a, b]) (fun c hc => ?_) (fun c ob _ _ hc e _ => ?_) (fun c ob _ _ hc e _ => ?_) (fun c ob hc _ n => ?_) (fun c ob hc e => ?_) (fun c _ e => up c _ e) (fun c _ _ e => up c _ e) (fun c ps e => ⟨#[], by rw [up c _ e]; simp⟩) (fun m hm => ?_) (fun c u e => ?_) I.bare
  · rcases List.mem_cons.mp hc with rfl | hc
    · exact ⟨a1, aL, a2, a3⟩
    · rw [List.mem_singleton.mp hc]
      exact ⟨b1, bL, b2, b3⟩
  · exact k c ob (fun z => hc (by simp [z])) (fun z => hc (by simp [z])) e
  · exact ⟨ob.slots, k c ob (fun z => hc (by simp [z])) (fun z => hc (by simp [z])) e⟩
  · rw [upd_ne (fun z => hc (by simp [z]))]; exact n
  · exact ⟨ob, k c ob (fun z => hc (by simp [z])) (fun z => hc (by simp [z])) e⟩
  · obtain ⟨ob, es, ep, ho, r⟩ := hm
    exact ⟨ob, es, ep, k _ ob (Ne.symm aL) (Ne.symm bL) ho, r⟩
  · by_cases hc : c = a
    · rw [hc, upd_same] at e
      cases e
      rw [hc]
      exact new
    · rw [upd_ne hc] at e
      refine (I.hok c u e).stay (fun d v hd q => ?_) (fun d q => up d _ q) fun d _ q => up d _ q
      rcases hd with z | z
      · rw [z] at q ⊢
        exact k c v hc (nb c u e) q
      · exact k d v (na d _ z) (nb d _ z) q
theorem fp_frs {X : Cx} {pins : List (Addr × Obj)} {σ : L2.St} {H : Hp} {s : Shared} (I : L2.Inv X pins σ H s) {b : Addr} (f : FpOk X pins H b) : b ∉ frs X.stack := by
  obtain ⟨_, f1, f2, _⟩ := f
  rcases I.ok.stk with e | ⟨e, e2⟩
  · rw [e]; exact f2
  · rw [e]
    intro hb
    have f2 : b ∉ frs X.outer := f2
    unfold frs at hb f2
    rw [List.filterMap_cons, e2] at hb
    rcases List.mem_cons.mp hb with z | z
    · exact f1 z
    · exact f2 z
def rSortKF (K : PySem.W.Frag) (spf : Sp) : List V → Hp → VK → Prop := fun vs H Q => ∃ (l : Addr) (xs : List V) (ks : List Int), vs = [.ref l] ∧ SqL K H l xs ∧ ks.length = xs.length ∧
  (∀ (j : Nat) (x : V) (k : Int), xs[j]? = some x → ks[j]? = some k → spf [x] H (fun v H1 => v = .int k ∧ H1 = H) fun _ _ _ => False) ∧
  ∀ (zs : List (V × Int)) (D : Addr) (H2 : Hp), zs.Perm (xs.zip ks) → zs.Pairwise (fun p q => p.2 ≤ q.2) → H D = none → Ex H H2 → H2 D = some (.lst (zs.map (·.1))) → Q (.ref D) H2
section
variable {X : Cx} {k : Nat} {f : Addr} {fd : FuncData} {ps : List Str} {spf : Sp} {pins : List (Addr × Obj)} {σ : L2.St} {H : Hp}
/-- the state while the keys are made -/
def KeyS (X : Cx) (pins : List (Addr × Obj)) (σ : L2.St) (H : Hp) (a kS : Addr) (e1 : Nat) (ks : List Int) (i : Nat) (s : Shared) : Prop :=
  L2.Inv X pins σ H s ∧ s.heap.get? a = some (seqObj "list" #[] e1) ∧ ∃ (kA : Array Value) (e : Nat), s.heap.get? kS = some (seqObj "list" kA e) ∧ Vals ((ks.take i).map V.int) kA.toList
theorem call_key (F : FnOk X.prog X.w X.K X.mg X.base CX0 k f fd ps spf) (room : Room (k + 2) X.A) (bnd : L2.Binds X.K fd ps []) {s : Shared} {x : V} {u : Value} {n : Int} (I : L2.Inv X pins σ H s) (r : RelV x u) (h : spf [x] H (fun v H1 => v = .int n ∧ H1 = H) fun _ _ _ => False) {Q : Value → Shared → Prop} {E : Value → Shared → Prop}
    (q : ∀ (s2 : Shared) (t : Tok), L2.Inv X pins σ H s2 → (∀ b o, FpOk X pins H b → s.heap.get? b = some o → s2.heap.get? b = some o) → Q (.int n t) s2) : wpAny (model X.prog X.w) X.A.in1.in1 (call (.ref f) [u]) Q E s := by
  have rv : Vals [x] [u] := .cons r .nil
  have hl : ([u] ++ []).length = ps.length := by
    rw [List.append_nil, ← rv.length]
    exact F.len _ _ _ _ h
  have bt := bnd s [u] I.kIn hl
  rw [List.append_nil] at bt
  refine wpAny_call (codeAny_mono (F.run X.A.in1.in1 X.stack s H ⟨[u], []⟩ [u] [x] _ _ room.in1.in1 I.env0.in1.in1 bt rv h) fun rr s2 hq => ?_)
  cases rr with
  | error e => exact False.elim hq
  | ok fl =>
    cases fl with
    | next => exact False.elim hq
    | brk => exact False.elim hq
    | cont => exact False.elim hq
    | ret w =>
      have ce : CE X.stack X.prog X.w H s (fun v H1 => v = .int n ∧ H1 = H) w s2 := hq
      obtain ⟨v, H1, J, rv2, ev, eH⟩ := I.after ce
      obtain ⟨_, H3, _, _, un, _, _, _, e3⟩ := ce
      subst ev eH
      obtain ⟨t, rfl⟩ := rv2
      exact q s2 t J fun b o fb e => un.keep b o e fb.1 (fp_frs I fb) (by simp)
theorem call_sortKF (F : FnOk X.prog X.w X.K X.mg X.base CX0 k f fd ps spf) (room : Room (k + 2) X.A) (bnd : L2.Binds X.K fd ps []) {s : Shared} {vs : List V} {us : List Value} {Q : VK} (I : L2.Inv X pins σ H s) (r : Vals vs us) (h : rSortKF X.K spf vs H Q) :
    wpAny (model X.prog X.w) X.A (call (.builtin "sorted") us [(Str.ofString "key", .ref f)]) (EP X pins σ Q) X.xe s := by
  obtain ⟨l, xs, ks, rfl, hs, hlen, hk, q⟩ := h
  obtain ⟨its, rv, hl, hz⟩ := I.list hs
  obtain ⟨u, rfl, ru⟩ := vals1 r
  obtain rfl : u = Value.ref l := ru
  have lv : xs.length = its.length := rv.length
  have hZ : its.length ≤ sizeLine := by rw [← lv]; exact hz
  refine PySem.W.sorted_of_sort hl.isList hZ (ksk_s1 _ _) (fun _ => ksk_l1 _ _) fun E' => ?_
  rw [ksk_t1]
  have ho := PySem.W.copyHeap_at s.heap its
  obtain ⟨e1, ho1⟩ : ∃ e1, ((PySem.W.copyHeap s.heap its).update (s.heap.objs.size + 1) (Obj.mapSeq fun _ => (#[] : Array Value))).get? (s.heap.objs.size + 1) = some (seqObj "list" #[] e1) := ⟨_, get?_update_seq ho fun _ => #[]⟩
  have ca : s.heap.objs.size + 1 < (PySem.W.copyHeap s.heap its).objs.size := Heap.lt_size ho
  unfold ksk_tree
  refine wpAny_bind (listItems_at ho rfl (wpAny_bind (listUpdate_at ho rfl ?_ (by rw [List.size_toArray]; exact hZ) (Nat.zero_le _))))
  refine wpAny_bind (seqEpoch_at ho1 rfl (wpAny_bind (wpAny_newTuple ?_ (by show its.length ≤ _; exact hZ))))
  refine wpAny_bind (wpAny_newList (wpAny_holding ?_) (Nat.zero_le _))
  generalize hkS : (((PySem.W.copyHeap s.heap its).update (s.heap.objs.size + 1) (Obj.mapSeq fun _ => (#[] : Array Value))).push (seqObj "tuple" its.toArray 0)).objs.size = kS
  have kSsz : kS = (PySem.W.copyHeap s.heap its).objs.size + 1 := by rw [← hkS, size_push', Heap.size_update]
  have a1 : s.heap.objs.size ≤ s.heap.objs.size + 1 := Nat.le_succ _
  have a2 : s.heap.objs.size ≤ kS := by omega
  have hka : kS ≠ s.heap.objs.size + 1 := by omega
  have fa : FpOk X pins H (s.heap.objs.size + 1) := I.fpOk a1 (I.hok.fresh a1)
  have fk : FpOk X pins H kS := I.fpOk a2 (I.hok.fresh a2)
  have keep0 : ∀ b o, s.heap.get? b = some o → (((PySem.W.copyHeap s.heap its).update (s.heap.objs.size + 1) (Obj.mapSeq fun _ => (#[] : Array Value))).push (seqObj "tuple" its.toArray 0)).get? b = some o := fun b o e => by
    have hb : b < s.heap.objs.size := Heap.lt_size e
    refine Heap.get?_push_of_some _ ?_
    exact ((Heap.SameBut.update (PySem.W.copyHeap s.heap its) (s.heap.objs.size + 1) (Obj.mapSeq fun _ => (#[] : Array Value))).2 b (Nat.ne_of_lt (Nat.lt_succ_of_lt hb))).trans (PySem.W.copyHeap_old e)
  have S0 : KeyS X pins σ H (s.heap.objs.size + 1) kS e1 ks 0 { s with heap := (((PySem.W.copyHeap s.heap its).update (s.heap.objs.size + 1) (Obj.mapSeq fun _ => (#[] : Array Value))).push (seqObj "tuple" its.toArray 0)).push (seqObj "list" #[] 0) } := by
    refine ⟨I.kept (t' := s.toks) fun b o e => Heap.get?_push_of_some _ (keep0 b o e), Heap.get?_push_of_some _ (Heap.get?_push_of_some _ ho1), #[], 0, ?_, .nil⟩
    rw [← hkS]
    exact Heap.get?_push_size _ rfl
  unfold ksk_rest
  refine wpAny_bind (wpAny_rule ?_)
  rw [← Array.forIn_toList]
  simp only [List.toList_toArray]
  refine wpAny_bind (ksk_fold (fun i s2 => KeyS X pins σ H (s.heap.objs.size + 1) kS e1 ks i s2) its 0 _ S0 ?step ?done)
  case step =>
    rintro j v s2 hx ⟨J, na, kA, e, nk, hv⟩
    simp only [Nat.zero_add] at hv ⊢
    have hj : j < its.length := (List.getElem?_eq_some_iff.mp hx).1
    have hxj : xs[j]? = some xs[j] := List.getElem?_eq_getElem (by omega)
    have hkj : ks[j]? = some ks[j] := List.getElem?_eq_getElem (by omega)
    obtain ⟨v2, hv2, rx⟩ := rv.get hxj
    obtain rfl : v2 = v := Option.some.inj (hv2.symm.trans hx)
    have kz : kA.size ≤ its.length := by
      have z := hv.length
      have z2 : kA.toList.length = kA.size := Array.length_toList
      rw [List.length_map, List.length_take] at z
      omega
    refine wpAny_bind (wpAny_attempt (call_key F room bnd J rx (hk j _ _ hxj hkj) fun s3 t J3 keep3 => ?_))
    try dsimp only
    have nk3 := keep3 _ _ fk nk
    have na3 := keep3 _ _ fa na
    have sb := Heap.SameBut.update s3.heap kS (Obj.mapSeq (·.push (Value.int ks[j] t)))
    obtain ⟨c2, hc2⟩ : ∃ c2, (s3.heap.update kS (Obj.mapSeq (·.push (Value.int ks[j] t)))).get? kS = some (seqObj "list" (kA.push (Value.int ks[j] t)) c2) := ⟨_, get?_update_seq nk3 (·.push (Value.int ks[j] t))⟩
    refine wpAny_bind (listUpdate_at nk3 rfl ?_ (Nat.le_trans kz hZ) (Nat.le_trans (Nat.le_of_eq (Array.size_push ..)) (Nat.succ_le_succ (Nat.le_trans kz hZ))))
    obtain ⟨f1, f2, _, f4, f5, f6⟩ := fk
    have J4 : L2.Inv X pins σ H { s3 with heap := s3.heap.update kS (Obj.mapSeq (·.push (Value.int ks[j] t))) } := J3.turned (t' := s3.toks) (it := kS) (fun b o hb ee => (sb.2 b hb).trans ee) f1 f2 f4 f5 f6
    refine wpAny_pure ⟨rfl, J4, (sb.2 _ hka.symm).trans na3, kA.push (Value.int ks[j] t), c2, hc2, ?_⟩
    have et : ks.take (j + 1) = ks.take j ++ [ks[j]] := by rw [List.take_add_one, hkj]; rfl
    have ea : (kA.push (Value.int ks[j] t)).toList = kA.toList ++ [Value.int ks[j] t] := by simp
    rw [et, ea, List.map_append]
    exact hv.append (.cons ⟨t, rfl⟩ .nil)
  case done =>
    rintro s2 ⟨J, na, kA, e, nk, hv⟩
    rw [Nat.zero_add, List.take_of_length_le (by omega)] at hv
    have ksz : kA.size = its.length := by
      have z := hv.length
      have z2 : kA.toList.length = kA.size := Array.length_toList
      rw [List.length_map] at z
      omega
    try dsimp only
    refine wpAny_bind (listItems_at nk rfl ?_)
    have each : PySem.W.EachIs (fun v d => ∃ as, Reads s2.heap v d as) kA.toList (ks.map PyData.int) := by
      have gen : ∀ (ks : List Int) (l : List Value), Vals (ks.map V.int) l → PySem.W.EachIs (fun v d => ∃ as, Reads s2.heap v d as) l (ks.map PyData.int) := by
        intro ks
        induction ks with
        | nil => intro l hl; cases hl; exact .nil
        | cons n ks ih =>
          intro l hl
          cases hl with
          | cons r1 r2 =>
            obtain ⟨t, rfl⟩ := r1
            exact .cons ⟨_, Reads.int n t⟩ (ih _ r2)
      exact gen ks _ hv
    have alk : PySem.W.AllAlike (ks.map PyData.int) := by
      intro d hd d' hd'
      obtain ⟨n, _, rfl⟩ := List.mem_map.mp hd
      obtain ⟨m, _, rfl⟩ := List.mem_map.mp hd'
      rfl
    have srt : PySem.W.Sortable (ks.map PyData.int) := .inr fun d hd => by
      obtain ⟨n, _, rfl⟩ := List.mem_map.mp hd
      exact ⟨by simp, by simp⟩
    let G : Hp := fun b => if b = kS then some (.lst []) else none
    refine PySem.W.keyH_end (κ := PySem.W.dataKind s2.heap (ks.map .int)) (h₁ := hidT s2.heap G) (fun b o _ ee => (of_hidT ee).1) ?_ nk na hka (PySem.W.SortsAt.data each alk srt fun d hd => ?_) ksz hZ fun h3 tk c kb n3 => ⟨rfl, ?_⟩
    · cases z : (hidT s2.heap G).get? kS with
      | none => rfl
      | some o =>
        have y := (of_hidT z).2
        rw [show G kS = some (.lst []) from if_pos rfl] at y
        cases y
    · obtain ⟨n, _, rfl⟩ := List.mem_map.mp hd
      have := room.un
      show X.A.units + 1 + 1 + (PyData.int n).depth < cLine
      simp only [PyData.depth]
      omega
    · have eachP : PySem.W.EachIs (fun v (p : V × Int) => RelV p.1 v) its (xs.zip ks) := by
        have gen : ∀ (xs : List V) (ks : List Int) (l : List Value), Vals xs l → ks.length = xs.length → PySem.W.EachIs (fun v (p : V × Int) => RelV p.1 v) l (xs.zip ks) := by
          intro xs
          induction xs with
          | nil => intro ks l hl _; cases hl; exact .nil
          | cons x xs ih =>
            intro ks l hl hh
            cases hl with
            | cons r1 r2 =>
              cases ks with
              | nil => simp at hh
              | cons n ks => exact .cons r1 (ih ks _ r2 (by simpa using hh))
        exact gen xs ks its rv hlen
      have ekz : (xs.zip ks).map (fun p => PyData.int p.2) = ks.map PyData.int := by
        have e0 : (xs.zip ks).map Prod.snd = ks := List.map_snd_zip (by omega)
        have e1 : (xs.zip ks).map (fun p => PyData.int p.2) = ((xs.zip ks).map Prod.snd).map PyData.int := by rw [List.map_map]; rfl
        rw [e1, e0]
      have ko : PySem.W.KeyedOut false ((xs.zip ks).map fun p => PyData.int p.2) its (PySem.W.sortVals (PySem.W.dataKind s2.heap (ks.map .int)) false kA.toList its) := by
        rw [ekz]
        exact ⟨s2.heap, kA.toList, alk, rfl, each⟩
      have eo := PySem.W.keyedOut_each (fun p : V × Int => PyData.int p.2) ko eachP
      rw [PySem.W.dataLe_int (fun p : V × Int => p.2)] at eo
      generalize hzs : (xs.zip ks).mergeSort (fun a b => decide (a.2 ≤ b.2)) = zs at eo
      have hperm : zs.Perm (xs.zip ks) := by rw [← hzs]; exact List.mergeSort_perm _ _
      have hsort : zs.Pairwise (fun p q => p.2 ≤ q.2) := by
        have z := List.pairwise_mergeSort (le := fun a b : V × Int => decide (a.2 ≤ b.2)) (fun a b c h1 h2 => decide_eq_true (Int.le_trans (of_decide_eq_true h1) (of_decide_eq_true h2))) (fun a b => by
          by_cases h : a.2 ≤ b.2
          · simp [h]
          · simp [show b.2 ≤ a.2 by omega]) (xs.zip ks)
        rw [hzs] at z
        exact z.imp fun h => of_decide_eq_true h
      have vz : Vals (zs.map (·.1)) (PySem.W.sortVals (PySem.W.dataKind s2.heap (ks.map .int)) false kA.toList its) := by
        have gen : ∀ (l : List Value) (zs : List (V × Int)), PySem.W.EachIs (fun v (p : V × Int) => RelV p.1 v) l zs → Vals (zs.map (·.1)) l := by
          intro l zs h
          induction h with
          | nil => exact .nil
          | cons r _ ih => exact .cons r ih
        exact gen _ _ eo
      have zlen : zs.length = xs.length := by rw [hperm.length_eq, List.length_zip]; omega
      have keep2 : ∀ b o, b ≠ s.heap.objs.size + 1 → b ≠ kS → s2.heap.get? b = some o → h3.get? b = some o := fun b o h1 h2 ee => kb b o h1 (hidT_get ee (if_neg h2))
      refine ⟨.ref (s.heap.objs.size + 1), upd H (s.heap.objs.size + 1) (.lst (zs.map (·.1))), inv_take2 J (fun b o h1 h2 ee => keep2 b o h1 h2 ee) fa fk ?_, rfl, q zs _ _ hperm hsort fa.1 (Ex.new fa.1) upd_same⟩
      exact (show ObjOk X.prog X.w (upd H (s.heap.objs.size + 1) (.lst (zs.map (·.1)))) h3 (s.heap.objs.size + 1) (.lst (zs.map (·.1))) from ⟨by rw [List.length_map, zlen]; exact hz, _, c, vz, n3⟩)
/-- sorted(e, key=f) in the text -/
def jSortKF (spf : Sp) (ta : TE) : TE := fun σ H Q => ta σ H fun x H1 => ∃ l, x = .ref l ∧ ∃ xs, H1 l = some (.lst xs) ∧ ∃ ks : List Int, ks.length = xs.length ∧
  (∀ (j : Nat) (x : V) (k : Int), xs[j]? = some x → ks[j]? = some k → spf [x] H1 (fun v H2 => v = .int k ∧ H2 = H1) fun _ _ _ => False) ∧
  ∀ (zs : List (V × Int)) (D : Addr) (H2 : Hp), zs.Perm (xs.zip ks) → zs.Pairwise (fun p q => p.2 ≤ q.2) → H1 D = none → Ex H1 H2 → H2 D = some (.lst (zs.map (·.1))) → Q (.ref D) H2
@[simp] theorem j_sortKF {spf : Sp} {ta : TE} {σ : L2.St} {H : Hp} {Q : VK} : jSortKF spf ta σ H Q = ta σ H fun x H1 => ∃ l, x = .ref l ∧ ∃ xs, H1 l = some (.lst xs) ∧ ∃ ks : List Int, ks.length = xs.length ∧
  (∀ (j : Nat) (x : V) (k : Int), xs[j]? = some x → ks[j]? = some k → spf [x] H1 (fun v H2 => v = .int k ∧ H2 = H1) fun _ _ _ => False) ∧
  ∀ (zs : List (V × Int)) (D : Addr) (H2 : Hp), zs.Perm (xs.zip ks) → zs.Pairwise (fun p q => p.2 ≤ q.2) → H1 D = none → Ex H1 H2 → H2 D = some (.lst (zs.map (·.1))) → Q (.ref D) H2 := rfl
theorem cr_sortKF (F : FnOk X.prog X.w X.K X.mg X.base CX0 k f fd ps spf) (room : Room (k + 2) X.A) (bnd : L2.Binds X.K fd ps []) : CallRK X (.builtin "sorted") [Str.ofString "key"] (fun vs zs H Q => zs = [.ref f] ∧ rSortKF X.K spf vs H Q) := by
  intro pins s σ H vs zs us ws Q I r rz h
  obtain ⟨rfl, h⟩ := h
  obtain ⟨w1, rfl, e1⟩ := vals1 rz
  obtain rfl : w1 = Value.ref f := e1
  exact call_sortKF F room bnd I r h
theorem pe_sortKF {e : Expr} {te : TE} {x : Str} {p p2 pos kpos : Pos} (F : FnOk X.prog X.w X.K X.mg X.base CX0 k f fd ps spf) (room : Room (k + 2) X.A) (bnd : L2.Binds X.K fd ps []) (g1 : Gl X "sorted") (m1 : X.mg "sorted" = none) (g2 : Gl X x) (m2 : X.mg x = some (.ref f))
    (he : PE X e te) (hdb : (x == ("__debug__" : Str)) = false := by decide +kernel) (w0 : starEach [e] X.env = (false, eval e X.env) :: starEach [] X.env := by rfl)
    (w1 : backTo pos (starEach [e] X.env) = (false, eval e X.env) :: backTo pos (starEach [] X.env) := by rfl) (w2 : (backTo pos (starEach [e] X.env)).any (·.1) = false := by rfl)
    (w3 : (backToKw pos (keywordEach [⟨some "key", .Name x p2, kpos⟩] X.env)).all (·.1.isSome) = true := by rfl) (w4 : (backToKw pos (keywordEach [⟨some "key", .Name x p2, kpos⟩] X.env)).any (·.1.isNone) = false := by rfl)
    (w5 : (backToKw pos (keywordEach [⟨some "key", .Name x p2, kpos⟩] X.env)).filterMap (·.1) = [Str.ofString "key"] := by rfl) : PE X (.Call (.Name "sorted" p) [e] [⟨some "key", .Name x p2, kpos⟩] pos) (jSortKF spf te) :=
  (pe_callBK (cr_sortKF F room bnd) g1 m1 (by decide +kernel) (pa_cons he.cl pa_nil w0) (pk_cons (pe_glob (v := .ref f) g2 m2 rfl hdb) pk_nil) (by decide +kernel) (by decide +kernel) w1 w2 w3 w4 w5).by fun σ H Q q => ⟨_, q, fun v H1 ⟨l, e, xs, hl, ks, h1, h2, h3⟩ => ⟨rfl, l, xs, ks, by rw [e], .inl (.inl hl), h1, h2, h3⟩⟩
end
end Jk

namespace Jk
open PySem L2 Evl
/-! ## trees -/
inductive Tr where
  | pt (n : Int)
  | nd (j : Bool) (ts : List Tr)
mutual
def Tr.pts : Tr → List Int
  | .pt n => [n]
  | .nd _ ts => ptsL ts
def ptsL : List Tr → List Int
  | [] => []
  | t :: ts => t.pts ++ ptsL ts
end
mutual
def Tr.dep : Tr → Nat
  | .pt _ => 0
  | .nd _ ts => depL ts + 1
def depL : List Tr → Nat
  | [] => 0
  | t :: ts => max t.dep (depL ts)
end
mutual
def Tr.least : Tr → Int
  | .pt n => n
  | .nd _ ts => leastL ts
def leastL : List Tr → Int
  | [] => 0
  | t :: _ => t.least
end
/-- the word of a node, and none of a point -/
def Tr.wd : Tr → Option Bool
  | .pt _ => none
  | .nd j _ => some j
mutual
/-- two parts at least, told in the order of their least points, no word right within the same -/
def Tr.form : Tr → Prop
  | .pt _ => True
  | .nd j ts => 2 ≤ ts.length ∧ (ts.map Tr.least).Pairwise (· < ·) ∧ formL j ts
def formL (j : Bool) : List Tr → Prop
  | [] => True
  | t :: ts => t.form ∧ t.wd ≠ some j ∧ formL j ts
end
theorem formL_iff {j : Bool} {ts : List Tr} : formL j ts ↔ ∀ t ∈ ts, t.form ∧ t.wd ≠ some j := by
  induction ts with
  | nil => simp [formL]
  | cons t ts ih =>
    rw [formL, ih]
    simp only [List.mem_cons, forall_eq_or_imp]
    exact ⟨fun ⟨a, b, c⟩ => ⟨⟨a, b⟩, c⟩, fun ⟨⟨a, b⟩, c⟩ => ⟨a, b, c⟩⟩
theorem ptsL_flat (ts : List Tr) : ptsL ts = ts.flatMap Tr.pts := by
  induction ts with
  | nil => rfl
  | cons t ts ih => rw [ptsL, ih]; rfl
theorem ptsL_app (as bs : List Tr) : ptsL (as ++ bs) = ptsL as ++ ptsL bs := by rw [ptsL_flat, ptsL_flat, ptsL_flat, List.flatMap_append]
theorem depL_le {ts : List Tr} {t : Tr} (h : t ∈ ts) : t.dep ≤ depL ts := by
  induction ts with
  | nil => cases h
  | cons u ts ih =>
    rw [depL]
    rcases List.mem_cons.mp h with rfl | h
    · omega
    · have := ih h; omega
theorem depL_bound {ts : List Tr} {n : Nat} (h : ∀ t ∈ ts, t.dep ≤ n) : depL ts ≤ n := by
  induction ts with
  | nil => exact Nat.zero_le _
  | cons u ts ih =>
    rw [depL]
    have := h u (by simp)
    have := ih fun t ht => h t (by simp [ht])
    omega
/-- a tree has more points than words within one another -/
theorem Tr.dep_lt : ∀ t : Tr, t.form → t.dep + 1 ≤ t.pts.length
  | .pt n, _ => by simp [Tr.dep, Tr.pts]
  | .nd j ts, h => by
    rw [Tr.form] at h
    obtain ⟨h1, _, h3⟩ := h
    rw [Tr.dep, Tr.pts]
    have gen : ∀ ts : List Tr, (∀ t ∈ ts, t.dep + 1 ≤ t.pts.length) → ts.length ≤ (ptsL ts).length ∧ (1 ≤ ts.length → depL ts + ts.length ≤ (ptsL ts).length) := by
      intro ts
      induction ts with
      | nil => intro _; exact ⟨Nat.le_refl _, fun z => by simp at z⟩
      | cons t ts ih =>
        intro hh
        obtain ⟨i1, i2⟩ := ih fun u hu => hh u (by simp [hu])
        have h0 := hh t (by simp)
        rw [ptsL, depL, List.length_append, List.length_cons]
        refine ⟨by omega, fun _ => ?_⟩
        by_cases hz : 1 ≤ ts.length
        · have := i2 hz; omega
        · have e : ts = [] := List.length_eq_zero_iff.mp (by omega)
          subst e
          simp [ptsL, depL]
          omega
    have := (gen ts fun t ht => t.dep_lt (formL_iff.mp h3 t ht).1).2 (by omega)
    omega
def wdS (j : Bool) : Str := if j = true then "join" else "side"
/-! ## told trees in the heap -/
mutual
def ToldAt (H : Hp) : V → Tr → Prop
  | v, .pt n => v = .int n
  | v, .nd j ts => ∃ a b vs, v = .ref a ∧ H a = some (.tup [.str (wdS j), .ref b]) ∧ H b = some (.tup vs) ∧ ToldL H vs ts
def ToldL (H : Hp) : List V → List Tr → Prop
  | [], [] => True
  | v :: vs, t :: ts => ToldAt H v t ∧ ToldL H vs ts
  | [], _ :: _ => False
  | _ :: _, [] => False
end
theorem toldL_nil {H : Hp} {ts : List Tr} : ToldL H [] ts ↔ ts = [] := by cases ts <;> simp [ToldL]
theorem toldL_cons {H : Hp} {v : V} {vs : List V} {ts : List Tr} : ToldL H (v :: vs) ts ↔ ∃ t us, ts = t :: us ∧ ToldAt H v t ∧ ToldL H vs us := by
  cases ts with
  | nil => simp [ToldL]
  | cons t us => rw [ToldL]; exact ⟨fun h => ⟨t, us, rfl, h⟩, fun ⟨_, _, e, h⟩ => by cases e; exact h⟩
theorem toldL_iff {H : Hp} {vs : List V} {ts : List Tr} : ToldL H vs ts ↔ vs.length = ts.length ∧ ∀ (k : Nat) (v : V) (t : Tr), vs[k]? = some v → ts[k]? = some t → ToldAt H v t := by
  induction vs generalizing ts with
  | nil =>
    rw [toldL_nil]
    constructor
    · rintro rfl; exact ⟨rfl, fun k v t h => by simp at h⟩
    · exact fun h => List.length_eq_zero_iff.mp h.1.symm
  | cons v vs ih =>
    rw [toldL_cons]
    constructor
    · rintro ⟨t, us, rfl, h1, h2⟩
      obtain ⟨e, h⟩ := ih.mp h2
      refine ⟨by simp [e], fun k v' t' a b => ?_⟩
      cases k with
      | zero => cases a; cases b; exact h1
      | succ k => exact h k v' t' (by simpa using a) (by simpa using b)
    · rintro ⟨e, h⟩
      cases ts with
      | nil => simp at e
      | cons t us => exact ⟨t, us, rfl, h 0 v t rfl rfl, ih.mpr ⟨by simpa using e, fun k v' t' a b => h (k + 1) v' t' (by simpa using a) (by simpa using b)⟩⟩
mutual
theorem ToldAt.map {H H' : Hp} (k : ∀ a o, H a = some (.tup o) → H' a = some (.tup o)) : ∀ (t : Tr) (v : V), ToldAt H v t → ToldAt H' v t
  | .pt n, v, h => by rw [ToldAt] at h ⊢; exact h
  | .nd j ts, v, h => by
    rw [ToldAt] at h ⊢
    obtain ⟨a, b, vs, e, h1, h2, h3⟩ := h
    exact ⟨a, b, vs, e, k _ _ h1, k _ _ h2, ToldL.map k ts vs h3⟩
theorem ToldL.map {H H' : Hp} (k : ∀ a o, H a = some (.tup o) → H' a = some (.tup o)) : ∀ (ts : List Tr) (vs : List V), ToldL H vs ts → ToldL H' vs ts
  | [], [], _ => by simp [ToldL]
  | [], v :: vs, h => by simp [ToldL] at h
  | t :: ts, [], h => by simp [ToldL] at h
  | t :: ts, v :: vs, h => by
    rw [ToldL] at h ⊢
    exact ⟨ToldAt.map k t v h.1, ToldL.map k ts vs h.2⟩
end
theorem ToldAt.up {H H' : Hp} {t : Tr} {v : V} (h : ToldAt H v t) (e : Ex H H') : ToldAt H' v t := ToldAt.map (fun _ _ z => e _ _ z) t v h
theorem ToldL.up {H H' : Hp} {ts : List Tr} {vs : List V} (h : ToldL H vs ts) (e : Ex H H') : ToldL H' vs ts := ToldL.map (fun _ _ z => e _ _ z) ts vs h
theorem ToldL.snoc {H : Hp} {vs : List V} {ts : List Tr} {v : V} {t : Tr} (h : ToldL H vs ts) (ht : ToldAt H v t) : ToldL H (vs ++ [v]) (ts ++ [t]) := by
  rw [toldL_iff] at h ⊢
  refine ⟨by simp [h.1], fun k v' t' a b => ?_⟩
  by_cases hk : k < vs.length
  · rw [List.getElem?_append_left hk] at a
    rw [List.getElem?_append_left (by rw [← h.1]; exact hk)] at b
    exact h.2 k v' t' a b
  · rw [List.getElem?_append_right (by omega)] at a
    rw [List.getElem?_append_right (by rw [← h.1]; omega)] at b
    have k0 : k - vs.length = 0 := by
      have := (List.getElem?_eq_some_iff.mp a).1
      simp at this; omega
    rw [k0] at a
    rw [show k - ts.length = 0 by rw [← h.1]; exact k0] at b
    simp at a b
    subst a b
    exact ht
theorem ToldL.len {H : Hp} {vs : List V} {ts : List Tr} (h : ToldL H vs ts) : vs.length = ts.length := (toldL_iff.mp h).1
theorem ToldL.get {H : Hp} {vs : List V} {ts : List Tr} (h : ToldL H vs ts) {k : Nat} {v : V} (e : vs[k]? = some v) : ∃ t, ts[k]? = some t ∧ ToldAt H v t := by
  have hk : k < ts.length := by rw [← h.len]; exact (List.getElem?_eq_some_iff.mp e).1
  exact ⟨_, List.getElem?_eq_getElem hk, (toldL_iff.mp h).2 k v _ e (List.getElem?_eq_getElem hk)⟩
/-- the type of a told tree -/
theorem told_ty {H : Hp} {v : V} {t : Tr} (h : ToldAt H v t) : tyN H v = some (if t.wd = none then "int" else "tuple") := by
  cases t with
  | pt n => rw [ToldAt] at h; subst h; rfl
  | nd j ts =>
    rw [ToldAt] at h
    obtain ⟨a, b, vs, rfl, h1, _, _⟩ := h
    rw [tyN_tup h1]
    rfl
/-! told alike, alike -/
mutual
theorem told_uniq {H : Hp} : ∀ (t u : Tr) (v : V), ToldAt H v t → ToldAt H v u → t = u
  | .pt n, .pt m, v, h, g => by
    rw [ToldAt] at h; rw [ToldAt] at g
    rw [h] at g
    cases g; rfl
  | .pt n, .nd j us, v, h, g => by
    rw [ToldAt] at h; rw [ToldAt] at g
    obtain ⟨a, b, vs, e, _⟩ := g
    rw [h] at e; cases e
  | .nd j ts, .pt n, v, h, g => by
    rw [ToldAt] at h; rw [ToldAt] at g
    obtain ⟨a, b, vs, e, _⟩ := h
    rw [g] at e; cases e
  | .nd j ts, .nd i us, v, h, g => by
    rw [ToldAt] at h; rw [ToldAt] at g
    obtain ⟨a, b, vs, e, h1, h2, h3⟩ := h
    obtain ⟨a', b', vs', e', g1, g2, g3⟩ := g
    rw [e] at e'
    cases e'
    rw [h1] at g1
    have z := HO.tup.inj (Option.some.inj g1)
    simp at z
    obtain ⟨z1, rfl⟩ := z
    rw [h2] at g2
    obtain rfl : vs = vs' := HO.tup.inj (Option.some.inj g2)
    have ej : j = i := by
      cases j <;> cases i <;> first | rfl | exact absurd z1 (by decide +kernel)
    subst ej
    rw [toldL_uniq ts us vs h3 g3]
theorem toldL_uniq {H : Hp} : ∀ (ts us : List Tr) (vs : List V), ToldL H vs ts → ToldL H vs us → ts = us
  | [], us, vs, h, g => by
    cases vs with
    | nil => exact (toldL_nil.mp g).symm
    | cons v vs => simp [ToldL] at h
  | t :: ts, us, vs, h, g => by
    cases vs with
    | nil => simp [ToldL] at h
    | cons v vs =>
      obtain ⟨u, us', rfl, g1, g2⟩ := toldL_cons.mp g
      rw [ToldL] at h
      rw [told_uniq t u v h.1 g1, toldL_uniq ts us' vs h.2 g2]
end
theorem told_ex {H : Hp} {v : V} {t : Tr} {R : Tr → Prop} (h : ToldAt H v t) : (∃ u, ToldAt H v u ∧ R u) ↔ R t := ⟨fun ⟨u, a, r⟩ => by rw [told_uniq t u v h a]; exact r, fun r => ⟨t, h, r⟩⟩
/-! as data -/
mutual
def Tr.data : Tr → PyData
  | .pt n => .int n
  | .nd j ts => .tuple [.str (wdS j), .tuple (dataL ts)]
def dataL : List Tr → List PyData
  | [] => []
  | t :: ts => t.data :: dataL ts
end
mutual
theorem told_dp {K : PySem.W.Frag} {H : Hp} : ∀ (t : Tr) (v : V), ToldAt H v t → Dp K H v t.data
  | .pt n, v, h => by
    rw [ToldAt] at h
    rw [h, Tr.data]
    exact .int n
  | .nd j ts, v, h => by
    rw [ToldAt] at h
    obtain ⟨a, b, vs, rfl, h1, h2, h3⟩ := h
    rw [Tr.data]
    exact .tup (.inl (.inl h1)) (.cons (.str _) (.cons (.tup (.inl (.inl h2)) (toldL_dp ts vs h3)) .nil))
theorem toldL_dp {K : PySem.W.Frag} {H : Hp} : ∀ (ts : List Tr) (vs : List V), ToldL H vs ts → DpAll K H vs (dataL ts)
  | [], vs, h => by
    cases vs with
    | nil => exact .nil
    | cons v vs => simp [ToldL] at h
  | t :: ts, vs, h => by
    cases vs with
    | nil => simp [ToldL] at h
    | cons v vs =>
      rw [ToldL] at h
      exact .cons (told_dp t v h.1) (toldL_dp ts vs h.2)
end
end Jk

namespace Jk
/-! ## how a tree is grown: nodes by number, the node above each, the leaves -/
inductive Nd where
  | leaf (k : Nat)
  | inner (j : Bool) (cs : List Nat)
structure Grown (ns : List Nd) (ab : List (Option Nat)) (lv : List Nat) (dp : List Nat) : Prop where
  la : ab.length = ns.length
  ld : dp.length = ns.length
  one : 1 ≤ lv.length
  cnt : ns.length + 1 ≤ 2 * lv.length
  le : lv.length ≤ ns.length
  lf : ∀ (k l : Nat), lv[k]? = some l → ns[l]? = some (Nd.leaf k)
  fl : ∀ (l k : Nat), ns[l]? = some (Nd.leaf k) → lv[k]? = some l
  inn : ∀ (i : Nat) (j : Bool) (cs : List Nat), ns[i]? = some (Nd.inner j cs) → 2 ≤ cs.length ∧ cs.Nodup ∧ ∀ c ∈ cs, ab[c]? = some (some i) ∧ (∃ d, dp[i]? = some d ∧ dp[c]? = some (d + 1)) ∧ ∀ cs', ns[c]? ≠ some (Nd.inner j cs')
  par : ∀ (i p : Nat), ab[i]? = some (some p) → ∃ j cs, ns[p]? = some (Nd.inner j cs) ∧ i ∈ cs
  root : ab[0]? = some none
  top : ∀ i : Nat, ab[i]? = some none → i = 0 ∧ dp[0]? = some 0
  dpb : ∀ (i d : Nat), dp[i]? = some d → d + lv.length ≤ ns.length
theorem grown_start : Grown [Nd.leaf 0] [none] [0] [0] := by
  refine ⟨rfl, rfl, by simp, by simp, by simp, fun k l h => ?_, fun l k h => ?_, fun i j cs h => ?_, fun i p h => ?_, rfl, fun i h => ?_, fun i d h => ?_⟩
  · match k, h with
    | 0, h => cases h; rfl
    | k + 1, h => simp at h
  · match l, h with
    | 0, h => cases h; rfl
    | l + 1, h => simp at h
  · match i, h with
    | 0, h => cases h
    | i + 1, h => simp at h
  · match i, h with
    | 0, h => cases h
    | i + 1, h => simp at h
  · match i, h with
    | 0, h => exact ⟨rfl, rfl⟩
    | i + 1, h => simp at h
  · match i, h with
    | 0, h => cases h; simp
    | i + 1, h => simp at h
theorem app_get {α : Type} {l : List α} {x y : α} {i : Nat} (h : (l ++ [x])[i]? = some y) : (i < l.length ∧ l[i]? = some y) ∨ (i = l.length ∧ y = x) := by
  by_cases hi : i < l.length
  · rw [List.getElem?_append_left hi] at h
    exact .inl ⟨hi, h⟩
  · rw [List.getElem?_append_right (by omega)] at h
    have hz : i - l.length = 0 := by
      have := (List.getElem?_eq_some_iff.mp h).1
      simp at this; omega
    rw [hz] at h
    simp at h
    exact .inr ⟨by omega, h.symm⟩
theorem get_app {α : Type} {l : List α} {x y : α} {i : Nat} (h : l[i]? = some y) : (l ++ [x])[i]? = some y := by
  rw [List.getElem?_append_left (List.getElem?_eq_some_iff.mp h).1]; exact h
theorem get_new {α : Type} {l : List α} {x : α} : (l ++ [x])[l.length]? = some x := by simp
theorem lt_of_get {α : Type} {l : List α} {x : α} {i : Nat} (h : l[i]? = some x) : i < l.length := (List.getElem?_eq_some_iff.mp h).1
/-- a further point beside the others of its kind -/
theorem grown_more {ns : List Nd} {ab : List (Option Nat)} {lv dp : List Nat} (G : Grown ns ab lv dp) {p : Nat} {j : Bool} {cs : List Nat} {d : Nat} (hp : ns[p]? = some (Nd.inner j cs)) (hd : dp[p]? = some d) :
    Grown ((ns ++ [Nd.leaf lv.length]).set p (Nd.inner j (cs ++ [ns.length]))) (ab ++ [some p]) (lv ++ [ns.length]) (dp ++ [d + 1]) := by
  have pl := lt_of_get hp
  obtain ⟨c2, cnd, call⟩ := G.inn p j cs hp
  have at' : ∀ i x, ((ns ++ [Nd.leaf lv.length]).set p (Nd.inner j (cs ++ [ns.length])))[i]? = some x → (i = p ∧ x = Nd.inner j (cs ++ [ns.length])) ∨ (i ≠ p ∧ i < ns.length ∧ ns[i]? = some x) ∨ (i = ns.length ∧ x = Nd.leaf lv.length) := fun i x h => by
    by_cases e : i = p
    · subst e
      rw [List.getElem?_set_self (by simp; omega)] at h
      cases h
      exact .inl ⟨rfl, rfl⟩
    · rw [List.getElem?_set_ne (Ne.symm e)] at h
      rcases app_get h with ⟨a, b⟩ | ⟨a, b⟩
      · exact .inr (.inl ⟨e, a, b⟩)
      · exact .inr (.inr ⟨a, b⟩)
  have old : ∀ i x, i ≠ p → ns[i]? = some x → ((ns ++ [Nd.leaf lv.length]).set p (Nd.inner j (cs ++ [ns.length])))[i]? = some x := fun i x e h => by
    rw [List.getElem?_set_ne (Ne.symm e)]; exact get_app h
  have atp : ((ns ++ [Nd.leaf lv.length]).set p (Nd.inner j (cs ++ [ns.length])))[p]? = some (Nd.inner j (cs ++ [ns.length])) := List.getElem?_set_self (by simp; omega)
  have atn : ((ns ++ [Nd.leaf lv.length]).set p (Nd.inner j (cs ++ [ns.length])))[ns.length]? = some (Nd.leaf lv.length) := by
    rw [List.getElem?_set_ne (by omega)]; exact get_new
  have la := G.la
  have ld := G.ld
  have le := G.le
  have cnt := G.cnt
  refine ⟨by simp [la], by simp [ld], by simp, by simp; omega, by simp; omega, fun k l h => ?_, fun l k h => ?_, fun i j' cs' h => ?_, fun i q h => ?_, get_app G.root, fun i h => ?_, fun i e h => ?_⟩
  · rcases app_get h with ⟨_, b⟩ | ⟨a, b⟩
    · have z := G.lf k l b
      exact old l _ (fun e => by rw [e, hp] at z; cases z) z
    · rw [a, b]; exact atn
  · rcases at' l _ h with ⟨_, b⟩ | ⟨_, _, b⟩ | ⟨a, b⟩
    · cases b
    · exact get_app (G.fl l k b)
    · cases b; rw [a]; exact get_new
  · rcases at' i _ h with ⟨rfl, b⟩ | ⟨ne, hi, b⟩ | ⟨_, b⟩
    · cases b
      refine ⟨by simp; omega, ?_, fun c hc => ?_⟩
      · rw [List.nodup_append]
        refine ⟨cnd, by simp, fun x hx y hy e => ?_⟩
        rw [List.mem_singleton.mp hy] at e
        have := lt_of_get (call x hx).1
        omega
      · rcases List.mem_append.mp hc with hc | hc
        · obtain ⟨x1, ⟨d', x2, x3⟩, x4⟩ := call c hc
          refine ⟨get_app x1, ⟨d', get_app x2, get_app x3⟩, fun cs' z => ?_⟩
          rcases at' c _ z with ⟨e, _⟩ | ⟨_, _, z⟩ | ⟨_, z⟩
          · have y := x2
            rw [e, x2] at x3
            have := Option.some.inj x3
            omega
          · exact x4 cs' z
          · cases z
        · rw [List.mem_singleton.mp hc]
          refine ⟨by rw [← la]; exact get_new, ⟨d, get_app hd, by rw [← ld]; exact get_new⟩, fun cs' z => ?_⟩
          rw [atn] at z; cases z
    · obtain ⟨x1, x2, x3⟩ := G.inn i j' cs' b
      refine ⟨x1, x2, fun c hc => ?_⟩
      obtain ⟨y1, ⟨d', y2, y3⟩, y4⟩ := x3 c hc
      refine ⟨get_app y1, ⟨d', get_app y2, get_app y3⟩, fun cs2 z => ?_⟩
      rcases at' c _ z with ⟨e, z⟩ | ⟨_, _, z⟩ | ⟨_, z⟩
      · have ej : j' = j := by cases z; rfl
        rw [e] at y4
        exact y4 cs (by rw [ej]; exact hp)
      · exact y4 cs2 z
      · cases z
    · cases b
  · rcases app_get h with ⟨_, b⟩ | ⟨a, b⟩
    · obtain ⟨j', cs', x1, x2⟩ := G.par i q b
      by_cases e : q = p
      · subst e
        rw [hp] at x1
        cases x1
        exact ⟨_, _, atp, by simp [x2]⟩
      · exact ⟨_, _, old q _ e x1, x2⟩
    · cases b
      exact ⟨_, _, atp, by rw [a, la]; simp⟩
  · rcases app_get h with ⟨_, b⟩ | ⟨_, b⟩
    · obtain ⟨x1, x2⟩ := G.top i b
      exact ⟨x1, get_app x2⟩
    · cases b
  · rcases app_get h with ⟨_, b⟩ | ⟨_, b⟩
    · have := G.dpb i e b
      simp; omega
    · obtain ⟨c, hc⟩ : ∃ c, c ∈ cs := by cases cs with | nil => simp at c2 | cons c _ => exact ⟨c, by simp⟩
      obtain ⟨_, ⟨d', y2, y3⟩, _⟩ := call c hc
      rw [hd] at y2
      cases y2
      have := G.dpb c _ y3
      subst b
      simp; omega
/-- a leaf becomes a node of two leaves: it itself, told as the last, and a further one -/
theorem grown_split {ns : List Nd} {ab : List (Option Nat)} {lv dp : List Nat} (G : Grown ns ab lv dp) {old k d : Nat} {j : Bool} (hk : lv[k]? = some old) (hd : dp[old]? = some d)
    (hw : ∀ p, ab[old]? = some (some p) → ∀ cs, ns[p]? ≠ some (Nd.inner j cs)) :
    Grown ((ns ++ [Nd.leaf lv.length] ++ [Nd.leaf k]).set old (Nd.inner j [ns.length + 1, ns.length])) (ab ++ [some old] ++ [some old]) ((lv ++ [ns.length]).set k (ns.length + 1)) (dp ++ [d + 1] ++ [d + 1]) := by
  have ho := G.lf k old hk
  have ol := lt_of_get ho
  have kl := lt_of_get hk
  have la := G.la
  have ld := G.ld
  have le := G.le
  have cnt := G.cnt
  have at' : ∀ i x, ((ns ++ [Nd.leaf lv.length] ++ [Nd.leaf k]).set old (Nd.inner j [ns.length + 1, ns.length]))[i]? = some x → (i = old ∧ x = Nd.inner j [ns.length + 1, ns.length]) ∨ (i ≠ old ∧ i < ns.length ∧ ns[i]? = some x) ∨ (i = ns.length ∧ x = Nd.leaf lv.length) ∨ (i = ns.length + 1 ∧ x = Nd.leaf k) := fun i x h => by
    by_cases e : i = old
    · subst e
      rw [List.getElem?_set_self (by simp; omega)] at h
      cases h
      exact .inl ⟨rfl, rfl⟩
    · rw [List.getElem?_set_ne (Ne.symm e)] at h
      rcases app_get h with ⟨_, b⟩ | ⟨a, b⟩
      · rcases app_get b with ⟨a, b⟩ | ⟨a, b⟩
        · exact .inr (.inl ⟨e, a, b⟩)
        · exact .inr (.inr (.inl ⟨a, b⟩))
      · exact .inr (.inr (.inr ⟨by simpa using a, b⟩))
  have oldk : ∀ i x, i ≠ old → ns[i]? = some x → ((ns ++ [Nd.leaf lv.length] ++ [Nd.leaf k]).set old (Nd.inner j [ns.length + 1, ns.length]))[i]? = some x := fun i x e h => by
    rw [List.getElem?_set_ne (Ne.symm e)]; exact get_app (get_app h)
  have ato : ((ns ++ [Nd.leaf lv.length] ++ [Nd.leaf k]).set old (Nd.inner j [ns.length + 1, ns.length]))[old]? = some (Nd.inner j [ns.length + 1, ns.length]) := List.getElem?_set_self (by simp; omega)
  have atn : ((ns ++ [Nd.leaf lv.length] ++ [Nd.leaf k]).set old (Nd.inner j [ns.length + 1, ns.length]))[ns.length]? = some (Nd.leaf lv.length) := by
    rw [List.getElem?_set_ne (by omega)]; exact get_app get_new
  have atm : ((ns ++ [Nd.leaf lv.length] ++ [Nd.leaf k]).set old (Nd.inner j [ns.length + 1, ns.length]))[ns.length + 1]? = some (Nd.leaf k) := by
    rw [List.getElem?_set_ne (by omega)]
    have := get_new (l := ns ++ [Nd.leaf lv.length]) (x := Nd.leaf k)
    simpa using this
  have abn : (ab ++ [some old] ++ [some old])[ns.length]? = some (some old) := by rw [← la]; exact get_app get_new
  have abm : (ab ++ [some old] ++ [some old])[ns.length + 1]? = some (some old) := by
    have := get_new (l := ab ++ [some old]) (x := some old)
    rw [← la]; simpa using this
  have dpn : (dp ++ [d + 1] ++ [d + 1])[ns.length]? = some (d + 1) := by rw [← ld]; exact get_app get_new
  have dpm : (dp ++ [d + 1] ++ [d + 1])[ns.length + 1]? = some (d + 1) := by
    have := get_new (l := dp ++ [d + 1]) (x := d + 1)
    rw [← ld]; simpa using this
  have lvk : ((lv ++ [ns.length]).set k (ns.length + 1))[k]? = some (ns.length + 1) := List.getElem?_set_self (by simp; omega)
  have lvo : ∀ m l, m ≠ k → lv[m]? = some l → ((lv ++ [ns.length]).set k (ns.length + 1))[m]? = some l := fun m l e h => by
    rw [List.getElem?_set_ne (Ne.symm e)]; exact get_app h
  have lvn : ((lv ++ [ns.length]).set k (ns.length + 1))[lv.length]? = some ns.length := by
    rw [List.getElem?_set_ne (by omega)]; exact get_new
  have nochild : ∀ i j' cs, ns[i]? = some (Nd.inner j' cs) → old ∈ cs → j' ≠ j := fun i j' cs h hc e => by
    obtain ⟨_, _, x⟩ := G.inn i j' cs h
    exact hw i (x old hc).1 cs (by rw [← e]; exact h)
  refine ⟨by simp [la], by simp [ld], by simp, by simp; omega, by simp; omega, fun m l h => ?_, fun l m h => ?_, fun i j' cs' h => ?_, fun i q h => ?_, get_app (get_app G.root), fun i h => ?_, fun i e h => ?_⟩
  · by_cases e : m = k
    · subst e
      rw [lvk] at h
      cases h
      exact atm
    · rw [List.getElem?_set_ne (Ne.symm e)] at h
      rcases app_get h with ⟨_, b⟩ | ⟨a, b⟩
      · have z := G.lf m l b
        refine oldk l _ (fun e' => ?_) z
        rw [e', ho] at z
        have : k = m := by cases z; rfl
        exact e this.symm
      · rw [a, b]; exact atn
  · rcases at' l _ h with ⟨_, b⟩ | ⟨ne, _, b⟩ | ⟨a, b⟩ | ⟨a, b⟩
    · cases b
    · have z := G.fl l m b
      refine lvo m l (fun e => ?_) z
      rw [e, hk] at z
      cases z
      exact ne rfl
    · cases b; rw [a]; exact lvn
    · cases b; rw [a]; exact lvk
  · rcases at' i _ h with ⟨rfl, b⟩ | ⟨ne, hi, b⟩ | ⟨_, b⟩ | ⟨_, b⟩
    · cases b
      refine ⟨by simp, by simp, fun c hc => ?_⟩
      simp only [List.mem_cons, List.not_mem_nil, or_false] at hc
      rcases hc with rfl | rfl
      · exact ⟨abm, ⟨d, get_app (get_app hd), dpm⟩, fun cs2 z => by rw [atm] at z; cases z⟩
      · exact ⟨abn, ⟨d, get_app (get_app hd), dpn⟩, fun cs2 z => by rw [atn] at z; cases z⟩
    · obtain ⟨x1, x2, x3⟩ := G.inn i j' cs' b
      refine ⟨x1, x2, fun c hc => ?_⟩
      obtain ⟨y1, ⟨d', y2, y3⟩, y4⟩ := x3 c hc
      refine ⟨get_app (get_app y1), ⟨d', get_app (get_app y2), get_app (get_app y3)⟩, fun cs2 z => ?_⟩
      rcases at' c _ z with ⟨e, z⟩ | ⟨_, _, z⟩ | ⟨_, z⟩ | ⟨_, z⟩
      · have ej : j' = j := by cases z; rfl
        rw [e] at hc
        exact nochild i j' cs' b hc ej
      · exact y4 cs2 z
      · cases z
      · cases z
    · cases b
    · cases b
  · rcases app_get h with ⟨_, b⟩ | ⟨a, b⟩
    · rcases app_get b with ⟨_, b⟩ | ⟨a, b⟩
      · obtain ⟨j', cs', x1, x2⟩ := G.par i q b
        refine ⟨_, _, oldk q _ (fun e => ?_) x1, x2⟩
        rw [e, ho] at x1; cases x1
      · cases b
        exact ⟨_, _, ato, by rw [a, la]; simp⟩
    · cases b
      exact ⟨_, _, ato, by rw [a]; simp [la]⟩
  · rcases app_get h with ⟨_, b⟩ | ⟨_, b⟩
    · rcases app_get b with ⟨_, b⟩ | ⟨_, b⟩
      · obtain ⟨x1, x2⟩ := G.top i b
        exact ⟨x1, get_app (get_app x2)⟩
      · cases b
    · cases b
  · have := G.dpb old d hd
    rcases app_get h with ⟨_, b⟩ | ⟨_, b⟩
    · rcases app_get b with ⟨_, b⟩ | ⟨_, b⟩
      · have := G.dpb i e b
        simp; omega
      · subst b; simp; omega
    · subst b; simp; omega
end Jk

namespace Jk
/-! ## the tree that stands in grown nodes -/
def Built (ns : List Nd) (names : List Int) : Nat → Nat → Tr → Prop
  | 0, _, _ => False
  | d + 1, i, t => (∃ k n, ns[i]? = some (Nd.leaf k) ∧ names[k]? = some n ∧ t = .pt n) ∨
    ∃ j cs ts us, ns[i]? = some (Nd.inner j cs) ∧ ts.length = cs.length ∧ (∀ (m c : Nat) (u : Tr), cs[m]? = some c → ts[m]? = some u → Built ns names d c u) ∧ us.Perm ts ∧ us.Pairwise (fun a b => a.least ≤ b.least) ∧ t = .nd j us
/-- the node m steps above -/
def upN (ab : List (Option Nat)) : Nat → Nat → Option Nat
  | 0, l => some l
  | m + 1, l => match upN ab m l with
    | some c => (ab[c]?).join
    | none => none
section
variable {ns : List Nd} {ab : List (Option Nat)} {lv dp : List Nat} {names : List Int}
theorem upN_dp (G : Grown ns ab lv dp) {l dl : Nat} (hl : dp[l]? = some dl) : ∀ (m i : Nat), upN ab m l = some i → ∃ di, dp[i]? = some di ∧ dl = di + m
  | 0, i, h => by
    unfold upN at h
    cases h
    exact ⟨dl, hl, rfl⟩
  | m + 1, i, h => by
    unfold upN at h
    cases e : upN ab m l with
    | none => rw [e] at h; cases h
    | some c =>
      rw [e] at h
      have h : (ab[c]?).join = some i := h
      obtain ⟨dc, h1, h2⟩ := upN_dp G hl m c e
      have hac : ab[c]? = some (some i) := by
        cases z : ab[c]? with
        | none => rw [z] at h; cases h
        | some o =>
          rw [z] at h
          have h : o = some i := h
          rw [h]
      obtain ⟨j, cs, p1, p2⟩ := G.par c i hac
      obtain ⟨_, ⟨d, q1, q2⟩, _⟩ := (G.inn i j cs p1).2.2 c p2
      rw [h1] at q2
      cases q2
      exact ⟨d, q1, by omega⟩
/-- a leaf with the name n stands under i -/
def Under (ns : List Nd) (ab : List (Option Nat)) (names : List Int) (i : Nat) (n : Int) : Prop := ∃ (l k m : Nat), ns[l]? = some (Nd.leaf k) ∧ names[k]? = some n ∧ upN ab m l = some i
theorem Under.parent (G : Grown ns ab lv dp) {i c : Nat} {j : Bool} {cs : List Nat} {n : Int} (h : ns[i]? = some (Nd.inner j cs)) (hc : c ∈ cs) (u : Under ns ab names c n) : Under ns ab names i n := by
  obtain ⟨l, k, m, h1, h2, h3⟩ := u
  refine ⟨l, k, m + 1, h1, h2, ?_⟩
  unfold upN
  rw [h3]
  show (ab[c]?).join = _
  rw [((G.inn i j cs h).2.2 c hc).1]
  rfl
theorem name_ix (nd : names.Nodup) {a b : Nat} {n : Int} (ha : names[a]? = some n) (hb : names[b]? = some n) : a = b := by
  obtain ⟨la, ea⟩ := List.getElem?_eq_some_iff.mp ha
  obtain ⟨lb, eb⟩ := List.getElem?_eq_some_iff.mp hb
  rcases Nat.lt_trichotomy a b with h | h | h
  · exact absurd (ea.trans eb.symm) (List.pairwise_iff_getElem.mp nd a b la lb h)
  · exact h
  · exact absurd (eb.trans ea.symm) (List.pairwise_iff_getElem.mp nd b a lb la h)
theorem Under.apart (G : Grown ns ab lv dp) (nd : names.Nodup) {i c1 c2 : Nat} {j : Bool} {cs : List Nat} {n : Int} (h : ns[i]? = some (Nd.inner j cs)) (h1 : c1 ∈ cs) (h2 : c2 ∈ cs) (u1 : Under ns ab names c1 n) (u2 : Under ns ab names c2 n) : c1 = c2 := by
  obtain ⟨l1, k1, m1, a1, a2, a3⟩ := u1
  obtain ⟨l2, k2, m2, b1, b2, b3⟩ := u2
  have ek := name_ix nd a2 b2
  subst ek
  have el : l1 = l2 := by
    have x := G.fl l1 k1 a1
    have y := G.fl l2 k1 b1
    rw [x] at y
    exact Option.some.inj y
  subst el
  have hlt := lt_of_get a1
  obtain ⟨dl, hdl⟩ : ∃ dl, dp[l1]? = some dl := ⟨_, List.getElem?_eq_getElem (by rw [G.ld]; exact hlt)⟩
  obtain ⟨d1, x1, x2⟩ := upN_dp G hdl m1 c1 a3
  obtain ⟨d2, y1, y2⟩ := upN_dp G hdl m2 c2 b3
  obtain ⟨_, ⟨d, p1, p2⟩, _⟩ := (G.inn i j cs h).2.2 c1 h1
  obtain ⟨_, ⟨d', q1, q2⟩, _⟩ := (G.inn i j cs h).2.2 c2 h2
  rw [p1] at q1
  cases q1
  rw [x1] at p2
  rw [y1] at q2
  cases p2
  cases q2
  have em : m1 = m2 := by omega
  subst em
  rw [a3] at b3
  exact Option.some.inj b3
theorem least_in : ∀ t : Tr, t.form → t.least ∈ t.pts
  | .pt n, _ => by simp [Tr.least, Tr.pts]
  | .nd j ts, h => by
    rw [Tr.form] at h
    cases ts with
    | nil => simp at h
    | cons t us =>
      rw [Tr.least, Tr.pts, leastL, ptsL]
      have := least_in t (formL_iff.mp h.2.2 t (by simp)).1
      exact List.mem_append_left _ this
theorem mem_ptsL {ts : List Tr} {n : Int} : n ∈ ptsL ts ↔ ∃ t ∈ ts, n ∈ t.pts := by rw [ptsL_flat, List.mem_flatMap]
/-- what is built of grown nodes is a tree in its form -/
theorem built_ok (G : Grown ns ab lv dp) (nd : names.Nodup) : ∀ (d i : Nat) (t : Tr), Built ns names d i t → t.form ∧ t.pts.Nodup ∧ (∀ n ∈ t.pts, Under ns ab names i n) ∧ ((∃ k, ns[i]? = some (Nd.leaf k) ∧ t.wd = none) ∨ ∃ j cs, ns[i]? = some (Nd.inner j cs) ∧ t.wd = some j)
  | 0, i, t, h => False.elim h
  | d + 1, i, t, h => by
    unfold Built at h
    rcases h with ⟨k, n, h1, h2, rfl⟩ | ⟨j, cs, ts, us, h1, h2, h3, h4, h5, rfl⟩
    · refine ⟨by simp [Tr.form], by simp [Tr.pts], fun m hm => ?_, .inl ⟨k, h1, rfl⟩⟩
      have : m = n := by simpa [Tr.pts] using hm
      subst this
      exact ⟨i, k, 0, h1, h2, rfl⟩
    · obtain ⟨g1, g2, g3⟩ := G.inn i j cs h1
      have each : ∀ (m : Nat) (u : Tr), ts[m]? = some u → ∃ c, cs[m]? = some c ∧ c ∈ cs ∧ Built ns names d c u := fun m u hu => by
        have hm : m < cs.length := by rw [← h2]; exact lt_of_get hu
        exact ⟨cs[m], List.getElem?_eq_getElem hm, List.getElem_mem hm, h3 m _ u (List.getElem?_eq_getElem hm) hu⟩
      have eachM : ∀ u ∈ ts, ∃ c, c ∈ cs ∧ Built ns names d c u := fun u hu => by
        obtain ⟨m, hm, e⟩ := List.mem_iff_getElem.mp hu
        obtain ⟨c, _, b, x⟩ := each m u (by rw [List.getElem?_eq_getElem hm, e])
        exact ⟨c, b, x⟩
      have forms : ∀ u ∈ ts, u.form ∧ u.wd ≠ some j := fun u hu => by
        obtain ⟨c, hc, hb⟩ := eachM u hu
        obtain ⟨f1, _, _, f4⟩ := built_ok G nd d c u hb
        refine ⟨f1, fun e => ?_⟩
        rcases f4 with ⟨_, _, z⟩ | ⟨j', cs', y, z⟩
        · rw [z] at e; cases e
        · rw [z] at e
          cases e
          exact (g3 c hc).2.2 cs' y
      have apart : ts.Pairwise fun a b => ∀ n ∈ a.pts, ∀ m ∈ b.pts, n ≠ m := by
        rw [List.pairwise_iff_getElem]
        intro p q hp hq hpq n hn m hm e
        subst e
        obtain ⟨c1, x1, x2, x3⟩ := each p _ (List.getElem?_eq_getElem hp)
        obtain ⟨c2, y1, y2, y3⟩ := each q _ (List.getElem?_eq_getElem hq)
        have u1 := (built_ok G nd d c1 _ x3).2.2.1 n hn
        have u2 := (built_ok G nd d c2 _ y3).2.2.1 n hm
        have ec := Under.apart G nd h1 x2 y2 u1 u2
        obtain ⟨_, e1⟩ := List.getElem?_eq_some_iff.mp x1
        obtain ⟨_, e2⟩ := List.getElem?_eq_some_iff.mp y1
        exact List.pairwise_iff_getElem.mp g2 p q (by omega) (by omega) hpq (e1.trans (ec.trans e2.symm))
      have apartU : us.Pairwise fun a b => ∀ n ∈ a.pts, ∀ m ∈ b.pts, n ≠ m := h4.symm.pairwise apart fun {a b} hab n hn m hm e => hab m hm n hn e.symm
      have formsU : ∀ u ∈ us, u.form ∧ u.wd ≠ some j := fun u hu => forms u (h4.mem_iff.mp hu)
      have rise : (us.map Tr.least).Pairwise (· < ·) := by
        rw [List.pairwise_map]
        refine List.Pairwise.imp_of_mem (fun {a b} ha hb hab => ?_) (h5.and apartU)
        have := hab.2 _ (least_in a (formsU a ha).1) _ (least_in b (formsU b hb).1)
        have := hab.1
        omega
      refine ⟨?_, ?_, ?_, .inr ⟨j, cs, h1, rfl⟩⟩
      · rw [Tr.form]
        exact ⟨by rw [h4.length_eq, h2]; exact g1, rise, formL_iff.mpr formsU⟩
      · rw [Tr.pts, ptsL_flat]
        unfold List.Nodup
        rw [List.pairwise_flatMap]
        refine ⟨fun u hu => ?_, apartU⟩
        obtain ⟨c, _, hb⟩ := eachM u (h4.mem_iff.mp hu)
        exact (built_ok G nd d c u hb).2.1
      · intro n hn
        rw [Tr.pts, mem_ptsL] at hn
        obtain ⟨u, hu, hn⟩ := hn
        obtain ⟨c, hc, hb⟩ := eachM u (h4.mem_iff.mp hu)
        exact Under.parent G h1 hc ((built_ok G nd d c u hb).2.2.1 n hn)
/-- nothing is left out -/
theorem built_all (G : Grown ns ab lv dp) : ∀ (d i : Nat) (t : Tr), Built ns names d i t → ∀ n, Under ns ab names i n → n ∈ t.pts
  | 0, i, t, h, _, _ => False.elim h
  | d + 1, i, t, h, n, u => by
    unfold Built at h
    obtain ⟨l, k, m, u1, u2, u3⟩ := u
    cases m with
    | zero =>
      unfold upN at u3
      cases u3
      rcases h with ⟨k', n', h1, h2, rfl⟩ | ⟨j, cs, ts, us, h1, _⟩
      · rw [u1] at h1
        cases h1
        rw [u2] at h2
        cases h2
        simp [Tr.pts]
      · rw [u1] at h1; cases h1
    | succ m =>
      unfold upN at u3
      cases e : upN ab m l with
      | none => rw [e] at u3; cases u3
      | some c =>
        rw [e] at u3
        have u3 : (ab[c]?).join = some i := u3
        have hac : ab[c]? = some (some i) := by
          cases z : ab[c]? with
          | none => rw [z] at u3; cases u3
          | some o =>
            rw [z] at u3
            have u3 : o = some i := u3
            rw [u3]
        obtain ⟨j', cs', p1, p2⟩ := G.par c i hac
        rcases h with ⟨k', n', h1, _⟩ | ⟨j, cs, ts, us, h1, h2, h3, h4, h5, rfl⟩
        · rw [h1] at p1; cases p1
        · rw [h1] at p1
          cases p1
          obtain ⟨q, hq, eq⟩ := List.mem_iff_getElem.mp p2
          have hq' : q < ts.length := by omega
          have b := h3 q c ts[q] (by rw [List.getElem?_eq_getElem hq, eq]) (List.getElem?_eq_getElem hq')
          have := built_all G d c _ b n ⟨l, k, m, u1, u2, e⟩
          rw [Tr.pts, mem_ptsL]
          exact ⟨_, h4.mem_iff.mpr (List.getElem_mem hq'), this⟩
/-- all stand under the root -/
theorem under_root (G : Grown ns ab lv dp) {k : Nat} {n : Int} (hk : k < lv.length) (hn : names[k]? = some n) : Under ns ab names 0 n := by
  obtain ⟨l, hl⟩ : ∃ l, lv[k]? = some l := ⟨_, List.getElem?_eq_getElem hk⟩
  have h1 := G.lf k l hl
  have climb : ∀ (d c m : Nat), dp[c]? = some d → upN ab m l = some c → ∃ m', upN ab m' l = some 0 := by
    intro d
    induction d with
    | zero =>
      intro c m hc hm
      have cl := lt_of_get hc
      obtain ⟨o, ho⟩ : ∃ o, ab[c]? = some o := ⟨_, List.getElem?_eq_getElem (by rw [G.la, ← G.ld]; exact cl)⟩
      cases o with
      | none => exact ⟨m, by rw [hm, (G.top c ho).1]⟩
      | some p =>
        obtain ⟨j, cs, p1, p2⟩ := G.par c p ho
        obtain ⟨_, ⟨d', _, q2⟩, _⟩ := (G.inn p j cs p1).2.2 c p2
        rw [hc] at q2
        cases q2
    | succ d ih =>
      intro c m hc hm
      have cl := lt_of_get hc
      obtain ⟨o, ho⟩ : ∃ o, ab[c]? = some o := ⟨_, List.getElem?_eq_getElem (by rw [G.la, ← G.ld]; exact cl)⟩
      cases o with
      | none => exact ⟨m, by rw [hm, (G.top c ho).1]⟩
      | some p =>
        obtain ⟨j, cs, p1, p2⟩ := G.par c p ho
        obtain ⟨_, ⟨d', q1, q2⟩, _⟩ := (G.inn p j cs p1).2.2 c p2
        rw [hc] at q2
        cases q2
        refine ih p (m + 1) q1 ?_
        unfold upN
        rw [hm]
        show (ab[c]?).join = _
        rw [ho]
        rfl
  have ll := lt_of_get h1
  obtain ⟨d, hd⟩ : ∃ d, dp[l]? = some d := ⟨_, List.getElem?_eq_getElem (by rw [G.ld]; exact ll)⟩
  obtain ⟨m', hm'⟩ := climb d l 0 hd rfl
  exact ⟨l, k, m', h1, hn, hm'⟩
/-- the points of the whole -/
theorem built_pts (G : Grown ns ab lv dp) (nd : names.Nodup) {d : Nat} {t : Tr} (b : Built ns names d 0 t) (hl : lv.length ≤ names.length) : t.pts.Perm (names.take lv.length) := by
  obtain ⟨_, h2, h3, _⟩ := built_ok G nd d 0 t b
  refine (List.perm_ext_iff_of_nodup h2 (nd.sublist (List.take_sublist _ _))).mpr fun n => ⟨fun h => ?_, fun h => ?_⟩
  · obtain ⟨l, k, m, a1, a2, _⟩ := h3 n h
    have := lt_of_get (G.fl l k a1)
    exact List.mem_of_getElem? (i := k) (by rw [List.getElem?_take, if_pos this]; exact a2)
  · obtain ⟨k, hk, e⟩ := List.mem_iff_getElem.mp h
    rw [List.length_take] at hk
    rw [List.getElem_take] at e
    exact built_all G d 0 t b n (under_root G (k := k) (by omega) (by rw [List.getElem?_eq_getElem (by omega), e]))
end
end Jk

namespace Jk
open PySem L2 Evl
def jOrE (t u : TE) : TE := fun σ H Q => t σ H Q ∨ u σ H Q
@[simp] theorem j_orE {t u : TE} {σ : L2.St} {H : Hp} {Q : VK} : jOrE t u σ H Q = (t σ H Q ∨ u σ H Q) := rfl
theorem _root_.L2.PE.or {X : Cx} {e : Expr} {t u : TE} (h : PE X e t) (g : PE X e u) : PE X e (jOrE t u) := ⟨fun pins s σ H Q I q => q.elim (h.run pins s σ H Q I) (g.run pins s σ H Q I)⟩
/-! isinstance(x, D), x an object made by C -/
def jIsO (K : PySem.W.Frag) : List V → Hp → VK → Prop := fun xs H Q => ∃ a D, xs = [.ref a, .ref D] ∧ ∃ C b, (∃ dx fs, H a = some (.ins C dx fs)) ∧ Cls K C ∧ IsC K C ∧ PySem.W.kitOne K (.ref C) (.ref D) = some b ∧ Q (.bl b) H
@[simp] theorem j_isO {K : PySem.W.Frag} {a D : Addr} {H : Hp} {Q : VK} : jIsO K [.ref a, .ref D] H Q = ∃ C b, (∃ dx fs, H a = some (.ins C dx fs)) ∧ Cls K C ∧ IsC K C ∧ PySem.W.kitOne K (.ref C) (.ref D) = some b ∧ Q (.bl b) H := propext ⟨fun ⟨_, _, e, r⟩ => by cases e; exact r, fun r => ⟨_, _, rfl, r⟩⟩
theorem call_isO {X : Cx} {K0 : PySem.W.Frag} (hK : X.K = K0 := by rfl) : CallR X (.builtin "isinstance") (jIsO K0) := by
  subst hK
  exact callBy call_isi fun xs H Q ⟨a, D, e, C, b, ⟨dx, fs, h⟩, cl, ic, k, q⟩ => ⟨.ref a, .ref D, .ref C, .ref D, b, e, .own D, .base (.ins h cl ic.ha ic.hn ic.ht ic.hm), k, q⟩
end Jk

namespace Jk
open PySem L2 Evl
theorem nd_len {ns : List Int} {m : Nat} (nd : ns.Nodup) (h : ∀ n ∈ ns, 0 ≤ n ∧ n < (m : Int)) : ns.length ≤ m := by
  have e : ns.Perm (((List.range m).map fun (k : Nat) => (k : Int)).filter fun z => decide (z ∈ ns)) := by
    refine (List.perm_ext_iff_of_nodup nd ?_).mpr fun z => ?_
    · refine List.Pairwise.sublist List.filter_sublist ?_
      rw [List.pairwise_map]
      exact List.pairwise_lt_range.imp fun h => by omega
    · rw [List.mem_filter, decide_eq_true_iff, List.mem_map]
      constructor
      · intro hz
        have := h z hz
        exact ⟨⟨z.toNat, List.mem_range.mpr (by omega), by omega⟩, hz⟩
      · exact fun hz => hz.2
  rw [e.length_eq]
  refine Nat.le_trans (List.length_filter_le _ _) ?_
  rw [List.length_map, List.length_range]
  exact Nat.le_refl _
theorem LsI.up {H H' : Hp} {l : Addr} {ns : List Int} (h : LsI H l ns) (e : Ex H H') : LsI H' l ns := e _ _ h
end Jk

namespace Jk
open PySem L2 Evl
section
variable {X : Cx}
def jIndexI : V → List V → Hp → VK → Prop := fun x vs H Q => ∃ l v, x = .ref l ∧ vs = [.int v] ∧ ∃ ns j, LsI H l ns ∧ ns[j]? = some v ∧ (∀ m : Nat, m < j → ns[m]? ≠ some v) ∧ Q (.int (j : Nat)) H
@[simp] theorem j_indexI {l : Addr} {v : Int} {H : Hp} {Q : VK} : jIndexI (.ref l) [.int v] H Q = ∃ ns j, LsI H l ns ∧ ns[j]? = some v ∧ (∀ m : Nat, m < j → ns[m]? ≠ some v) ∧ Q (.int (j : Nat)) H := by simp [jIndexI]
theorem mt_indexI : MtR X "list.index" jIndexI := fun pins s σ H x xs v us Q I rx rxs ⟨l, n, e1, e2, ns, j, h, hj, hm, q⟩ => mt_index pins s σ H x xs v us Q I rx rxs (by
  refine ⟨l, ns.map V.int, .int n, j, .int n, e1, e2, .inl (.inl h), rfl, ?_, by rw [List.getElem?_map, hj]; rfl, by simp [eqV], fun m z hlt hz => ?_, q⟩
  · rw [List.all_map]
    exact List.all_eq_true.mpr fun _ _ => rfl
  · rw [List.getElem?_map] at hz
    cases e : ns[m]? with
    | none => rw [e] at hz; cases hz
    | some y =>
      rw [e] at hz
      cases hz
      have : y ≠ n := fun z => hm m hlt (by rw [e, z])
      simp [eqV, this])
def jSetL : V → V → V → Hp → (Hp → Prop) → Prop := fun o i v H Q => ∃ p k, o = .ref p ∧ i = .int k ∧ ∃ xs, H p = some (.lst xs) ∧ 0 ≤ k ∧ k.toNat < xs.length ∧ Q (L2.upd H p (.lst (xs.set k.toNat v)))
@[simp] theorem j_setL {p : Addr} {k : Int} {v : V} {H : Hp} {Q : Hp → Prop} : jSetL (.ref p) (.int k) v H Q = ∃ xs, H p = some (.lst xs) ∧ 0 ≤ k ∧ k.toNat < xs.length ∧ Q (L2.upd H p (.lst (xs.set k.toNat v))) := by simp [jSetL]
theorem set_listJ : PSet X jSetL := fun pins s σ H o i v u1 u2 u3 Q I r1 r2 r3 ⟨p, k, e1, e2, xs, h, h0, hk, q⟩ => set_list pins s σ H o i v u1 u2 u3 Q I r1 r2 r3 ⟨p, xs, k, k.toNat, e1, e2, h, by
  unfold ixN
  simp [h0, show ¬ k < 0 by omega, show k < (xs.length : Int) by omega], q⟩
@[simp] theorem j_gsub {to ti : TE} {t : TSet} {v : V} {σ : L2.St} {H : Hp} {Q : L2.St → Hp → Prop} : gSub to ti t v σ H Q = to σ H fun o H1 => ti σ H1 fun i H2 => t o i v H2 fun H3 => Q σ H3 := rfl
end
end Jk

namespace Jk
/-! ## ties of trees -/
def mmI (a b : Int) : Int × Int := (min a b, max a b)
theorem mm_cases {a b c d : Int} (h : mmI a b = mmI c d) : (a = c ∧ b = d) ∨ (a = d ∧ b = c) := by
  unfold mmI at h
  have h1 := congrArg Prod.fst h
  have h2 := congrArg Prod.snd h
  simp only at h1 h2
  omega
theorem mm_comm (a b : Int) : mmI a b = mmI b a := by
  unfold mmI
  rw [Int.min_comm, Int.max_comm]
def crossL (ah ps : List Int) : List (Int × Int) := ah.flatMap fun a => ps.map fun b => mmI a b
theorem mem_cross {ah ps : List Int} {p : Int × Int} : p ∈ crossL ah ps ↔ ∃ a ∈ ah, ∃ b ∈ ps, p = mmI a b := by
  unfold crossL
  simp only [List.mem_flatMap, List.mem_map]
  exact ⟨fun ⟨a, h1, b, h2, e⟩ => ⟨a, h1, b, h2, e.symm⟩, fun ⟨a, h1, b, h2, e⟩ => ⟨a, h1, b, h2, e.symm⟩⟩
theorem cross_len (ah ps : List Int) : (crossL ah ps).length = ah.length * ps.length := by
  unfold crossL
  induction ah with
  | nil => simp
  | cons a ah ih => rw [List.flatMap_cons, List.length_append, ih, List.length_map, List.length_cons, Nat.succ_mul]; omega
mutual
def Tr.ties : Tr → List (Int × Int)
  | .pt _ => []
  | .nd j ts => trTies j [] ts
def trTies (j : Bool) (ah : List Int) : List Tr → List (Int × Int)
  | [] => []
  | t :: ts => t.ties ++ (if j = true then crossL ah t.pts else []) ++ trTies j (ah ++ t.pts) ts
end
mutual
def Tr.tie : Tr → Int → Int → Bool
  | .pt _, _, _ => false
  | .nd j ts, a, b => tieL j ts a b
def tieL (j : Bool) : List Tr → Int → Int → Bool
  | [], _, _ => j
  | t :: ts, a, b => if a ∈ t.pts ∧ b ∈ t.pts then t.tie a b else tieL j ts a b
end
theorem trTies_app (j : Bool) (ah : List Int) (us ts : List Tr) : trTies j ah (us ++ ts) = trTies j ah us ++ trTies j (ah ++ ptsL us) ts := by
  induction us generalizing ah with
  | nil => simp [trTies, ptsL]
  | cons u us ih => rw [List.cons_append, trTies, trTies, ih, ptsL, ← List.append_assoc, ← List.append_assoc]
theorem trTies_snoc (j : Bool) (us : List Tr) (t : Tr) : trTies j [] (us ++ [t]) = trTies j [] us ++ (t.ties ++ (if j = true then crossL (ptsL us) t.pts else [])) := by
  rw [trTies_app]
  simp [trTies]
mutual
theorem ties_len : ∀ t : Tr, t.ties.length ≤ t.pts.length * t.pts.length
  | .pt n => by simp [Tr.ties]
  | .nd j ts => by
    rw [Tr.ties, Tr.pts]
    have := trTies_len j [] ts
    simpa using this
theorem trTies_len (j : Bool) (ah : List Int) : ∀ ts : List Tr, (trTies j ah ts).length + ah.length * ah.length ≤ (ah.length + (ptsL ts).length) * (ah.length + (ptsL ts).length)
  | [] => by simp [trTies, ptsL]
  | t :: ts => by
    have h1 := ties_len t
    have h2 := trTies_len j (ah ++ t.pts) ts
    rw [trTies, ptsL]
    simp only [List.length_append] at h2 ⊢
    have h3 : (if j = true then crossL ah t.pts else []).length ≤ ah.length * t.pts.length := by
      split
      · rw [cross_len]; exact Nat.le_refl _
      · simp
    generalize ah.length = a at *
    generalize t.pts.length = p at *
    generalize (ptsL ts).length = r at *
    have e : (a + p) * (a + p) = a * a + a * p + (a * p + p * p) := by rw [Nat.add_mul, Nat.mul_add, Nat.mul_add, Nat.mul_comm p a]
    have e2 : a + (p + r) = a + p + r := by omega
    rw [e2]
    omega
end
theorem ties_end (j : Bool) (ah : List Int) : ∀ (ts : List Tr), (∀ t ∈ ts, ∀ p ∈ t.ties, ∃ c ∈ t.pts, ∃ d ∈ t.pts, p = mmI c d) → ∀ p ∈ trTies j ah ts, ∃ c, ∃ d ∈ ptsL ts, c ∈ ah ++ ptsL ts ∧ p = mmI c d
  | [], _, p, h => by simp [trTies] at h
  | t :: ts, ih, p, h => by
    rw [trTies] at h
    rw [ptsL]
    rcases List.mem_append.mp h with h | h
    · rcases List.mem_append.mp h with h | h
      · obtain ⟨c, h1, d, h2, e⟩ := ih t (by simp) p h
        exact ⟨c, d, List.mem_append_left _ h2, by simp [h1], e⟩
      · split at h
        · obtain ⟨c, h1, d, h2, e⟩ := mem_cross.mp h
          exact ⟨c, d, List.mem_append_left _ h2, by simp [h1], e⟩
        · cases h
    · obtain ⟨c, d, h1, h2, e⟩ := ties_end j (ah ++ t.pts) ts (fun u hu => ih u (by simp [hu])) p h
      exact ⟨c, d, List.mem_append_right _ h1, by simpa [or_assoc] using h2, e⟩
theorem ties_in : ∀ (t : Tr), ∀ p ∈ t.ties, ∃ c ∈ t.pts, ∃ d ∈ t.pts, p = mmI c d
  | .pt n, p, h => by simp [Tr.ties] at h
  | .nd j ts, p, h => by
    rw [Tr.ties] at h
    rw [Tr.pts]
    obtain ⟨c, d, h1, h2, e⟩ := ties_end j [] ts (fun t ht => ties_in t) p h
    exact ⟨c, by simpa using h2, d, h1, e⟩
theorem tieL_out {j : Bool} : ∀ {ts : List Tr} {a b : Int}, (∀ t ∈ ts, ¬ (a ∈ t.pts ∧ b ∈ t.pts)) → tieL j ts a b = j
  | [], a, b, _ => by rw [tieL]
  | t :: ts, a, b, h => by
    rw [tieL, if_neg (h t (by simp))]
    exact tieL_out fun u hu => h u (by simp [hu])
theorem trTies_tie (j : Bool) {a b : Int} (ne : a ≠ b) : ∀ (ts : List Tr) (ah : List Int), (∀ t ∈ ts, a ∈ t.pts → b ∈ t.pts → (mmI a b ∈ t.ties ↔ t.tie a b = true)) → (ah ++ ptsL ts).Nodup → a ∈ ah ++ ptsL ts → b ∈ ah ++ ptsL ts → ¬ (a ∈ ah ∧ b ∈ ah) →
    (mmI a b ∈ trTies j ah ts ↔ tieL j ts a b = true)
  | [], ah, _, _, h1, h2, h3 => by simp [ptsL] at h1 h2; exact absurd ⟨h1, h2⟩ h3
  | t :: ts, ah, ih, nd, h1, h2, h3 => by
    rw [ptsL] at nd h1 h2
    have nd' : ((ah ++ t.pts) ++ ptsL ts).Nodup := by rw [List.append_assoc]; exact nd
    obtain ⟨n1, n2, n3⟩ := List.nodup_append.mp nd'
    obtain ⟨m1, m2, m3⟩ := List.nodup_append.mp n1
    have third : a ∈ ah ++ t.pts → b ∈ ah ++ t.pts → ¬ mmI a b ∈ trTies j (ah ++ t.pts) ts := fun ha hb h => by
      obtain ⟨c, d, hd, _, e⟩ := ties_end j _ ts (fun u hu => ties_in u) _ h
      rcases mm_cases e with ⟨_, e⟩ | ⟨e, _⟩
      · exact n3 b hb d hd e
      · exact n3 a ha d hd e
    rw [trTies, tieL, List.mem_append, List.mem_append]
    by_cases hb : a ∈ t.pts ∧ b ∈ t.pts
    · rw [if_pos hb]
      have z3 := third (List.mem_append_right _ hb.1) (List.mem_append_right _ hb.2)
      have z2 : ¬ mmI a b ∈ (if j = true then crossL ah t.pts else []) := fun h => by
        split at h
        · obtain ⟨c, hc, d, hd, e⟩ := mem_cross.mp h
          rcases mm_cases e with ⟨e, _⟩ | ⟨_, e⟩
          · exact m3 c hc a hb.1 e.symm
          · exact m3 c hc b hb.2 e.symm
        · cases h
      rw [← ih t (by simp) hb.1 hb.2]
      simp [z2, z3]
    · rw [if_neg hb]
      have z1 : ¬ mmI a b ∈ t.ties := fun h => by
        obtain ⟨c, hc, d, hd, e⟩ := ties_in t _ h
        rcases mm_cases e with ⟨e1, e2⟩ | ⟨e1, e2⟩ <;> subst e1 e2
        · exact hb ⟨hc, hd⟩
        · exact hb ⟨hd, hc⟩
      by_cases hat : a ∈ ah ++ t.pts ∧ b ∈ ah ++ t.pts
      · have z3 := third hat.1 hat.2
        have hc : mmI a b ∈ crossL ah t.pts := by
          rw [mem_cross]
          rcases List.mem_append.mp hat.1 with x | x <;> rcases List.mem_append.mp hat.2 with y | y
          · exact absurd ⟨x, y⟩ h3
          · exact ⟨a, x, b, y, rfl⟩
          · exact ⟨b, y, a, x, mm_comm a b⟩
          · exact absurd ⟨x, y⟩ hb
        have out : tieL j ts a b = j := tieL_out fun u hu ⟨x, _⟩ => n3 a hat.1 a (mem_ptsL.mpr ⟨u, hu, x⟩) rfl
        rw [out]
        simp only [z1, z3, false_or, or_false]
        cases j <;> simp [hc]
      · have z2 : ¬ mmI a b ∈ (if j = true then crossL ah t.pts else []) := fun h => by
          split at h
          · obtain ⟨c, hc, d, hd, e⟩ := mem_cross.mp h
            rcases mm_cases e with ⟨e1, e2⟩ | ⟨e1, e2⟩ <;> subst e1 e2
            · exact hat ⟨List.mem_append_left _ hc, List.mem_append_right _ hd⟩
            · exact hat ⟨List.mem_append_right _ hd, List.mem_append_left _ hc⟩
          · cases h
        simp only [z1, z2, false_or]
        exact trTies_tie j ne ts (ah ++ t.pts) (fun u hu => ih u (by simp [hu])) nd' (by rw [List.append_assoc]; exact h1) (by rw [List.append_assoc]; exact h2) hat
theorem nd_part {ts : List Tr} (nd : (ptsL ts).Nodup) {t : Tr} (ht : t ∈ ts) : t.pts.Nodup := by
  rw [ptsL_flat] at nd
  unfold List.Nodup at nd
  rw [List.pairwise_flatMap] at nd
  exact nd.1 t ht
/-- tied, as the law lists it and as it is asked -/
theorem ties_tie : ∀ (t : Tr), t.pts.Nodup → ∀ {a b : Int}, a ≠ b → a ∈ t.pts → b ∈ t.pts → (mmI a b ∈ t.ties ↔ t.tie a b = true)
  | .pt n, _, a, b, ne, h1, h2 => by
    simp [Tr.pts] at h1 h2
    exact absurd (h1.trans h2.symm) ne
  | .nd j ts, nd, a, b, ne, h1, h2 => by
    rw [Tr.pts] at nd h1 h2
    rw [Tr.ties, Tr.tie]
    refine trTies_tie j ne ts [] (fun t ht x y => ties_tie t ?_ ne x y) (by simpa using nd) (by simpa using h1) (by simpa using h2) (by simp)
    exact nd_part nd ht
theorem ties_nodupL (j : Bool) : ∀ (ts : List Tr) (ah : List Int), (∀ t ∈ ts, t.ties.Nodup) → (ah ++ ptsL ts).Nodup → (trTies j ah ts).Nodup
  | [], ah, _, _ => by simp [trTies]
  | t :: ts, ah, ih, nd => by
    rw [ptsL] at nd
    have nd' : ((ah ++ t.pts) ++ ptsL ts).Nodup := by rw [List.append_assoc]; exact nd
    obtain ⟨n1, n2, n3⟩ := List.nodup_append.mp nd'
    obtain ⟨m1, m2, m3⟩ := List.nodup_append.mp n1
    have two : (if j = true then crossL ah t.pts else []).Nodup := by
      split
      · unfold crossL List.Nodup
        rw [List.pairwise_flatMap]
        refine ⟨fun a ha => ?_, ?_⟩
        · rw [List.pairwise_map]
          refine List.Pairwise.imp_of_mem (fun {b c} hb hc hne e => ?_) m2
          rcases mm_cases e with ⟨_, e⟩ | ⟨e, _⟩
          · exact hne e
          · exact m3 a ha c hc e
        · refine List.Pairwise.imp_of_mem (fun {b c} hb hc hne x hx y hy e => ?_) m1
          obtain ⟨p, hp, rfl⟩ := List.mem_map.mp hx
          obtain ⟨q, hq, rfl⟩ := List.mem_map.mp hy
          rcases mm_cases e with ⟨e, _⟩ | ⟨e, _⟩
          · exact hne e
          · exact m3 b hb q hq e
      · exact List.nodup_nil
    rw [trTies]
    rw [List.nodup_append, List.nodup_append]
    refine ⟨⟨ih t (by simp), two, fun p hp q hq e => ?_⟩, ties_nodupL j ts _ (fun u hu => ih u (by simp [hu])) nd', fun p hp q hq e => ?_⟩
    · subst e
      split at hq
      · obtain ⟨c, hc, d, hd, e⟩ := ties_in t _ hp
        obtain ⟨c', hc', d', hd', e'⟩ := mem_cross.mp hq
        rw [e] at e'
        rcases mm_cases e' with ⟨e1, _⟩ | ⟨_, e2⟩
        · exact m3 c' hc' c hc e1.symm
        · exact m3 c' hc' d hd e2.symm
      · cases hq
    · subst e
      obtain ⟨c, d, hd, _, e⟩ := ties_end j _ ts (fun u hu => ties_in u) _ hq
      have both : ∃ x y, x ∈ ah ++ t.pts ∧ y ∈ ah ++ t.pts ∧ p = mmI x y := by
        rcases List.mem_append.mp hp with hp | hp
        · obtain ⟨c, hc, d, hd, e⟩ := ties_in t _ hp
          exact ⟨c, d, List.mem_append_right _ hc, List.mem_append_right _ hd, e⟩
        · split at hp
          · obtain ⟨c, hc, d, hd, e⟩ := mem_cross.mp hp
            exact ⟨c, d, List.mem_append_left _ hc, List.mem_append_right _ hd, e⟩
          · cases hp
      obtain ⟨x, y, hx, hy, e2⟩ := both
      rw [e2] at e
      rcases mm_cases e with ⟨_, e⟩ | ⟨e, _⟩
      · exact n3 y hy d hd e
      · exact n3 x hx d hd e
theorem ties_nodup : ∀ (t : Tr), t.pts.Nodup → t.ties.Nodup
  | .pt n, _ => by simp [Tr.ties]
  | .nd j ts, nd => by
    rw [Tr.pts] at nd
    rw [Tr.ties]
    refine ties_nodupL j ts [] (fun t ht => ties_nodup t ?_) (by simpa using nd)
    exact nd_part nd ht
theorem mm_lt {a b : Int} (h : a ≠ b) : (mmI a b).1 < (mmI a b).2 := by
  show min a b < max a b
  omega
theorem ties_ltL (j : Bool) : ∀ (ts : List Tr) (ah : List Int), (∀ t ∈ ts, ∀ p ∈ t.ties, p.1 < p.2) → (ah ++ ptsL ts).Nodup → ∀ p ∈ trTies j ah ts, p.1 < p.2
  | [], ah, _, _, p, h => by simp [trTies] at h
  | t :: ts, ah, ih, nd, p, h => by
    rw [ptsL] at nd
    have nd' : ((ah ++ t.pts) ++ ptsL ts).Nodup := by rw [List.append_assoc]; exact nd
    obtain ⟨n1, n2, n3⟩ := List.nodup_append.mp nd'
    obtain ⟨m1, m2, m3⟩ := List.nodup_append.mp n1
    rw [trTies] at h
    rcases List.mem_append.mp h with h | h
    · rcases List.mem_append.mp h with h | h
      · exact ih t (by simp) p h
      · split at h
        · obtain ⟨c, hc, d, hd, e⟩ := mem_cross.mp h
          rw [e]
          exact mm_lt (m3 c hc d hd)
        · cases h
    · exact ties_ltL j ts _ (fun u hu => ih u (by simp [hu])) nd' p h
theorem ties_lt : ∀ (t : Tr), t.pts.Nodup → ∀ p ∈ t.ties, p.1 < p.2
  | .pt n, _, p, h => by simp [Tr.ties] at h
  | .nd j ts, nd, p, h => by
    rw [Tr.pts] at nd
    rw [Tr.ties] at h
    exact ties_ltL j ts [] (fun t ht => ties_lt t (nd_part nd ht)) (by simpa using nd) p h
theorem pts_nd {j : Bool} {ts : List Tr} (nd : (Tr.nd j ts).pts.Nodup) {t : Tr} (ht : t ∈ ts) : t.pts.Nodup := by
  rw [Tr.pts] at nd
  exact nd_part nd ht
end Jk

namespace Jk
open PySem L2 Evl
theorem take_one {α : Type} {l : List α} {i : Nat} {x : α} (h : l[i]? = some x) : l.take (i + 1) = l.take i ++ [x] := by rw [List.take_add_one, h]; rfl
/-! ## comprehensions whose pieces stay as they are -/
section
variable {K : PySem.W.Frag} {a : Addr} {xs : List V} {g : TG} {te : TE} {vs : List Nat} {σ : L2.St} {H1 : Hp} {D : Addr} {Qd : Hp → Prop}
def StayD (D : Addr) (S : Nat → V → Hp → Prop) : Prop := ∀ i y H H' acc, S i y H → H D = some (.lst acc) → (∀ x o, H x = some o → x ≠ D → H' x = some o) → S i y H'
structure CompS (D : Addr) (H1 : Hp) (S : Nat → V → Hp → Prop) (i : Nat) (H : Hp) : Prop where
  ex : Ex H1 H
  ac : ∃ acc : List V, H D = some (.lst acc) ∧ acc.length = i ∧ ∀ (k : Nat) (y : V), acc[k]? = some y → S k y H
theorem CompS.start {S : Nat → V → Hp → Prop} (hD : H1 D = none) : CompS D H1 S 0 (upd H1 D (.lst [])) := ⟨Ex.new hD, [], upd_same, rfl, fun k y h => by simp at h⟩
theorem CompS.push {S : Nat → V → Hp → Prop} (st : StayD D S) (hD : H1 D = none) {i : Nat} {H H4 : Hp} {y : V} (c : CompS D H1 S i H) (e : Ex H H4) (hy : S i y H4) (hi : i < 100000) : ∃ acc, H4 D = some (.lst acc) ∧ acc.length < sizeLine ∧ CompS D H1 S (i + 1) (upd H4 D (.lst (acc ++ [y]))) := by
  obtain ⟨e1, acc, h1, h2, h3⟩ := c
  have h4 := e _ _ h1
  have kk : ∀ x o, H4 x = some o → x ≠ D → (upd H4 D (.lst (acc ++ [y]))) x = some o := fun x o z ne => by rw [upd_ne ne]; exact z
  refine ⟨acc, h4, lt_line (by omega), Ex.mut (e1.trans e) hD, _, upd_same, by simp [h2], fun k z hz => ?_⟩
  rcases app_get hz with ⟨_, q⟩ | ⟨q1, q2⟩
  · exact st k z _ _ _ (st k z _ _ _ (h3 k z q) h1 fun x o w _ => e x o w) h4 kk
  · subst q2
    rw [q1, h2]
    exact st i z _ _ _ hy h4 kk
theorem lc_listS (S : Nat → V → Hp → Prop) (st : StayD D S) (hD : H1 D = none) (hl : SqL K H1 a xs) (few : xs.length ≤ 100000)
    (hs : ∀ i x H (N : V → Hp → Prop), xs[i]? = some x → Ex H1 H → H D ≠ none → (∀ y H4, Ex H H4 → S i y H4 → N y H4) → g x (wipe σ vs) H fun σ2 H2 => wipe σ2 vs = wipe σ vs ∧ te σ2 H2 N)
    (hd : ∀ acc H', Ex H1 H' → H' D = some (.lst acc) → acc.length = xs.length → (∀ (i : Nat) (y : V), acc[i]? = some y → S i y H') → Qd H') :
    ∃ W : Nat → Nat → Hp → Prop, (∃ m, W 0 m (upd H1 D (.lst []))) ∧ ∀ i m H, W i m H →
      ((Itl K a).stop i H ∧ Qd H) ∨ ((Itl K a).go i H ∧ ∃ Nx : Hp → Prop, (∀ H', Nx H' → ∃ m', m' < m ∧ W (i + 1) m' H') ∧ ∀ x H', (Itl K a).yld i H x H' → g x (wipe σ vs) H' fun σ2 H2 => wipe σ2 vs = wipe σ vs ∧ tYes σ2 H2 fun b H3 =>
        if b = true then te σ2 H3 fun y H4 => ∃ acc, H4 D = some (.lst acc) ∧ acc.length < sizeLine ∧ Nx (upd H4 D (.lst (acc ++ [y]))) else Nx H3) := by
  refine lc_list (xs := xs) (CompS D H1 S) (CompS.start hD) (fun i H _ c => ?_) (fun i x H hx c => ?_) (fun H c => ?_)
  · rcases hl with (h | ⟨o, h⟩) | h
    · exact .inl (.inl (c.ex _ _ h))
    · exact .inl (.inr ⟨o, c.ex _ _ h⟩)
    · exact .inr h
  · obtain ⟨acc, h1, _⟩ := id c.ac
    exact hs i x H _ hx c.ex (by rw [h1]; simp) fun y H4 e hy => c.push st hD e hy (by have := lt_of_get hx; omega)
  · obtain ⟨e, acc, h1, h2, h3⟩ := c
    exact hd acc H e h1 h2 h3
theorem lc_tupS (S : Nat → V → Hp → Prop) (st : StayD D S) (hD : H1 D = none) (hl : SqT K H1 a xs) (few : xs.length ≤ 100000)
    (hs : ∀ i x H (N : V → Hp → Prop), xs[i]? = some x → Ex H1 H → H D ≠ none → (∀ y H4, Ex H H4 → S i y H4 → N y H4) → g x (wipe σ vs) H fun σ2 H2 => wipe σ2 vs = wipe σ vs ∧ te σ2 H2 N)
    (hd : ∀ acc H', Ex H1 H' → H' D = some (.lst acc) → acc.length = xs.length → (∀ (i : Nat) (y : V), acc[i]? = some y → S i y H') → Qd H') :
    ∃ W : Nat → Nat → Hp → Prop, (∃ m, W 0 m (upd H1 D (.lst []))) ∧ ∀ i m H, W i m H →
      ((Itt K a).stop i H ∧ Qd H) ∨ ((Itt K a).go i H ∧ ∃ Nx : Hp → Prop, (∀ H', Nx H' → ∃ m', m' < m ∧ W (i + 1) m' H') ∧ ∀ x H', (Itt K a).yld i H x H' → g x (wipe σ vs) H' fun σ2 H2 => wipe σ2 vs = wipe σ vs ∧ tYes σ2 H2 fun b H3 =>
        if b = true then te σ2 H3 fun y H4 => ∃ acc, H4 D = some (.lst acc) ∧ acc.length < sizeLine ∧ Nx (upd H4 D (.lst (acc ++ [y]))) else Nx H3) := by
  refine lc_tup (xs := xs) (CompS D H1 S) (CompS.start hD) (fun i H _ c => ?_) (fun i x H hx c => ?_) (fun H c => ?_)
  · rcases hl with (h | ⟨o, h⟩) | h
    · exact .inl (.inl (c.ex _ _ h))
    · exact .inl (.inr ⟨o, c.ex _ _ h⟩)
    · exact .inr h
  · obtain ⟨acc, h1, _⟩ := id c.ac
    exact hs i x H _ hx c.ex (by rw [h1]; simp) fun y H4 e hy => c.push st hD e hy (by have := lt_of_get hx; omega)
  · obtain ⟨e, acc, h1, h2, h3⟩ := c
    exact hd acc H e h1 h2 h3
theorem lc_rangeS {lo : Int} {n : Nat} (S : Nat → V → Hp → Prop) (st : StayD D S) (hD : H1 D = none) (few : n ≤ 100000)
    (hs : ∀ i H (N : V → Hp → Prop), i < n → Ex H1 H → H D ≠ none → (∀ y H4, Ex H H4 → S i y H4 → N y H4) → g (.int (lo + i)) (wipe σ vs) H fun σ2 H2 => wipe σ2 vs = wipe σ vs ∧ te σ2 H2 N)
    (hd : ∀ acc H', Ex H1 H' → H' D = some (.lst acc) → acc.length = n → (∀ (i : Nat) (y : V), acc[i]? = some y → S i y H') → Qd H') :
    ∃ W : Nat → Nat → Hp → Prop, (∃ m, W 0 m (upd H1 D (.lst []))) ∧ ∀ i m H, W i m H →
      ((Itr lo n).stop i H ∧ Qd H) ∨ ((Itr lo n).go i H ∧ ∃ Nx : Hp → Prop, (∀ H', Nx H' → ∃ m', m' < m ∧ W (i + 1) m' H') ∧ ∀ x H', (Itr lo n).yld i H x H' → g x (wipe σ vs) H' fun σ2 H2 => wipe σ2 vs = wipe σ vs ∧ tYes σ2 H2 fun b H3 =>
        if b = true then te σ2 H3 fun y H4 => ∃ acc, H4 D = some (.lst acc) ∧ acc.length < sizeLine ∧ Nx (upd H4 D (.lst (acc ++ [y]))) else Nx H3) := by
  refine lc_range (CompS D H1 S) (CompS.start hD) (fun i H hi c => ?_) (fun H c => ?_)
  · obtain ⟨acc, h1, _⟩ := id c.ac
    exact hs i H _ hi c.ex (by rw [h1]; simp) fun y H4 e hy => c.push st hD e hy (by omega)
  · obtain ⟨e, acc, h1, h2, h3⟩ := c
    exact hd acc H e h1 h2 h3
end
/-! what stays -/
theorem stay_val {D : Addr} {f : Nat → V} : StayD D fun i y _ => y = f i := fun i y H H' acc h _ _ => h
theorem ToldAt.stay {D : Addr} {H H' : Hp} {acc : List V} {t : Tr} {v : V} (h : ToldAt H v t) (hD : H D = some (.lst acc)) (k : ∀ x o, H x = some o → x ≠ D → H' x = some o) : ToldAt H' v t :=
  h.map (fun x o z => k _ _ z (ne_of z hD (by intro y; cases y)))
theorem stay_told {D : Addr} {f : Nat → Tr → Prop} : StayD D fun i y H => ∃ t, f i t ∧ ToldAt H y t := fun i y H H' acc ⟨t, h1, h2⟩ hD k => ⟨t, h1, h2.stay hD k⟩
theorem stay_pair {D : Addr} {f : Nat → Int × Int} : StayD D fun i y H => ∃ t, y = .ref t ∧ H t = some (.tup [.int (f i).1, .int (f i).2]) := fun i y H H' acc ⟨t, h1, h2⟩ hD k => ⟨t, h1, k _ _ h2 (ne_of h2 hD (by intro y; cases y))⟩
theorem lsP_of {H : Hp} {D : Addr} {acc : List V} {prs : List (Int × Int)} (h : H D = some (.lst acc)) (hl : acc.length = prs.length) (k : ∀ (i : Nat) (y : V), acc[i]? = some y → ∃ t, y = .ref t ∧ ∃ p, prs[i]? = some p ∧ H t = some (.tup [.int p.1, .int p.2])) : LsP H D prs := by
  have gen : ∀ (acc : List V) (prs : List (Int × Int)), acc.length = prs.length → (∀ (i : Nat) (y : V), acc[i]? = some y → ∃ t, y = .ref t ∧ ∃ p, prs[i]? = some p ∧ H t = some (.tup [.int p.1, .int p.2])) → ∃ ts : List Addr, acc = ts.map V.ref ∧ TupsAt H ts prs := by
    intro acc
    induction acc with
    | nil =>
      intro prs hl _
      have : prs = [] := List.length_eq_zero_iff.mp hl.symm
      subst this
      exact ⟨[], rfl, TupsAt.nil _⟩
    | cons y acc ih =>
      intro prs hl kk
      cases prs with
      | nil => simp at hl
      | cons p prs =>
        obtain ⟨t, e, p', hp, ht⟩ := kk 0 y rfl
        cases hp
        obtain ⟨ts, e2, h2⟩ := ih prs (by simpa using hl) fun i z hz => kk (i + 1) z (by simpa using hz)
        exact ⟨t :: ts, by rw [e, e2]; rfl, TupsAt.cons.mpr ⟨ht, h2⟩⟩
  obtain ⟨ts, e, h2⟩ := gen acc prs hl k
  exact ⟨ts, by rw [h, e], h2⟩
theorem ints_of {acc : List V} {ns : List Int} (hl : acc.length = ns.length) (k : ∀ (i : Nat) (y : V), acc[i]? = some y → ∃ n, ns[i]? = some n ∧ y = .int n) : acc = ns.map V.int := by
  refine List.ext_getElem? fun i => ?_
  rw [List.getElem?_map]
  cases e : acc[i]? with
  | none =>
    rw [List.getElem?_eq_none_iff] at e
    rw [List.getElem?_eq_none (by omega)]
    rfl
  | some y =>
    obtain ⟨n, h1, h2⟩ := k i y e
    rw [h1, h2]
    rfl
end Jk

namespace Jk
open PySem L2 Evl
/-! ## sorted ints -/
def srt (l : List Int) : List Int := l.mergeSort fun a b => decide (a ≤ b)
theorem srt_perm (l : List Int) : (srt l).Perm l := List.mergeSort_perm _ _
theorem srt_le (l : List Int) : (srt l).Pairwise (· ≤ ·) := by
  have z := List.pairwise_mergeSort (le := fun a b : Int => decide (a ≤ b)) (fun a b c h1 h2 => decide_eq_true (Int.le_trans (of_decide_eq_true h1) (of_decide_eq_true h2))) (fun a b => by
    by_cases h : a ≤ b
    · simp [h]
    · simp [show b ≤ a by omega]) l
  exact z.imp fun h => of_decide_eq_true h
theorem le_uniq : ∀ {l m : List Int}, l.Perm m → l.Pairwise (· ≤ ·) → m.Pairwise (· ≤ ·) → l = m
  | [], m, p, _, _ => (List.nil_perm.mp p).symm
  | a :: l, [], p, _, _ => by have := p.length_eq; simp at this
  | a :: l, b :: m, p, h, g => by
    have ea : a = b := by
      have x1 := (List.pairwise_cons.mp h).1
      have y1 := (List.pairwise_cons.mp g).1
      rcases List.mem_cons.mp (p.mem_iff.mp (List.mem_cons_self (a := a))) with e | e
      · exact e
      · rcases List.mem_cons.mp (p.mem_iff.mpr (List.mem_cons_self (a := b))) with e' | e'
        · exact e'.symm
        · have := x1 b e'
          have := y1 a e
          omega
    subst ea
    rw [le_uniq ((List.perm_cons a).mp p) (List.pairwise_cons.mp h).2 (List.pairwise_cons.mp g).2]
theorem srt_uniq {l ys : List Int} (p : ys.Perm l) (h : ys.Pairwise (· ≤ ·)) : ys = srt l := le_uniq (p.trans (srt_perm l).symm) h (srt_le l)
theorem srt_len (l : List Int) : (srt l).length = l.length := (srt_perm l).length_eq
theorem srt_mem {l : List Int} {x : Int} : x ∈ srt l ↔ x ∈ l := (srt_perm l).mem_iff
theorem srt_of_perm {l m : List Int} (p : l.Perm m) : srt l = srt m := srt_uniq ((srt_perm l).trans p) (srt_le l)
theorem srt_fix {l : List Int} (h : l.Pairwise (· ≤ ·)) : srt l = l := (srt_uniq (List.Perm.refl l) h).symm
section
variable {X : Cx}
def jSorted (K : PySem.W.Frag) : List V → Hp → VK → Prop := fun vs H Q => ∃ (a : Addr) (ns : List Int), vs = [V.ref a] ∧ LsI H a ns ∧ ns.length < 64 ∧ ∀ p H2, H p = none → Ex H H2 → LsI H2 p (srt ns) → Q (.ref p) H2
theorem call_sortJ {K0 : PySem.W.Frag} (hK : X.K = K0 := by rfl) : CallR X (.builtin "sorted") (jSorted K0) := by
  subst hK
  exact callBy cr_sorted fun vs H Q ⟨a, ns, e, h, l, q⟩ => ⟨a, ns, e, .inl (.inl h), l, fun ns' p h1 h2 h3 => q p _ h3 (Ex.new h3) (by rw [srt_uniq h1 h2] at *; exact upd_same)⟩
@[simp] theorem j_sorted {K : PySem.W.Frag} {a : Addr} {H : Hp} {Q : VK} : jSorted K [.ref a] H Q = ∃ ns : List Int, LsI H a ns ∧ ns.length < 64 ∧ ∀ p H2, H p = none → Ex H H2 → LsI H2 p (srt ns) → Q (.ref p) H2 := by simp [jSorted]
end
theorem pi_listK {X : Cx} {K0 : PySem.W.Frag} {tg l : Expr} {tl : TE} (hl : PE X l tl) (hK : X.K = K0 := by rfl) : PI X tg l (iList K0 tl) := by
  subst hK
  exact pi_list hl
theorem pi_tupK {X : Cx} {K0 : PySem.W.Frag} {tg l : Expr} {tl : TE} (hl : PE X l tl) (hK : X.K = K0 := by rfl) : PI X tg l (iTup K0 tl) := by
  subst hK
  exact pi_tup hl
/-! ## [y for ys in xs for y in ..] -/
section
variable {K : PySem.W.Frag} {a : Addr} {xs : List V} {g g1 : TG} {wi1 : TI} {te : TE} {vs vs1 : List Nat} {σ : L2.St} {H1 : Hp} {D : Addr} {Qd : Hp → Prop}
theorem flat_take {α : Type} {ls : List (List α)} {i : Nat} {l : List α} (h : ls[i]? = some l) : (ls.take (i + 1)).flatten = (ls.take i).flatten ++ l := by rw [take_one h]; simp
theorem flat_le {α : Type} (ls : List (List α)) (i : Nat) : (ls.take i).flatten.length ≤ ls.flatten.length := by
  have z : ls.flatten = (ls.take i).flatten ++ (ls.drop i).flatten := by rw [← List.flatten_append, List.take_append_drop]
  rw [z, List.length_append]; omega
theorem sql_kp {H H' : Hp} {b : Addr} {xs : List V} (h : SqL K H b xs) (k : ∀ o, H b = some o → H' b = some o) : SqL K H' b xs := by
  rcases h with (h | ⟨o, h⟩) | h
  · exact .inl (.inl (k _ h))
  · exact .inl (.inr ⟨o, k _ h⟩)
  · exact .inr h
theorem lc2_list (ls : List (List V)) (hD : H1 D = none) (hl : SqL K H1 a xs) (len : ls.length = xs.length) (few : ls.flatten.length ≤ 100000)
    (hs : ∀ i x H, xs[i]? = some x → Ex H1 H → H D ≠ none → g x (wipe σ vs) H fun σ2 H2 => wipe σ2 vs = wipe σ vs ∧
      (∀ N : It → Hp → Prop, (∀ b H4, Ex H H4 → b ≠ D → SqL K H4 b (ls.getD i []) → N (Itl K b) H4) → wi1 σ2 H2 N) ∧ H2 = H ∧ ∀ (y : V) (H : Hp) (N : V → Hp → Prop), N y H → g1 y (wipe σ2 vs1) H fun σ3 H5 => wipe σ3 vs1 = wipe σ2 vs1 ∧ te σ3 H5 N)
    (mg : ∀ x σ H Q Q', (∀ s h, Q s h → Q' s h) → g x σ H Q → g x σ H Q') (mg1 : ∀ x σ H Q Q', (∀ s h, Q s h → Q' s h) → g1 x σ H Q → g1 x σ H Q')
    (hd : ∀ H', Ex H1 H' → H' D = some (.lst ls.flatten) → Qd H') :
    ∃ W : Nat → Nat → Hp → Prop, (∃ m, W 0 m (upd H1 D (.lst []))) ∧ ∀ i m H, W i m H →
  ((Itl K a).stop i H ∧ Qd H) ∨ ((Itl K a).go i H ∧ ∃ Nx : Hp → Prop, (∀ H', Nx H' → ∃ m', m' < m ∧ W (i + 1) m' H') ∧ ∀ x H', (Itl K a).yld i H x H' → g x (wipe σ vs) H' fun σ2 H2 => wipe σ2 vs = wipe σ vs ∧ tYes σ2 H2 fun b H3 =>
    if b = true then wi1 σ2 H3 fun J1 H4 => ∃ W1 : Nat → Nat → Hp → Prop, (∃ m, W1 0 m H4) ∧ ∀ j k H, W1 j k H →
      (J1.stop j H ∧ Nx H) ∨ (J1.go j H ∧ ∃ Nx1 : Hp → Prop, (∀ H', Nx1 H' → ∃ k', k' < k ∧ W1 (j + 1) k' H') ∧ ∀ x H', J1.yld j H x H' → g1 x (wipe σ2 vs1) H' fun σ3 H5 => wipe σ3 vs1 = wipe σ2 vs1 ∧ tYes σ3 H5 fun b H6 =>
        if b = true then te σ3 H6 fun y H7 => ∃ acc, H7 D = some (.lst acc) ∧ acc.length < sizeLine ∧ Nx1 (upd H7 D (.lst (acc ++ [y]))) else Nx1 H6)
    else Nx H3) := by
  refine ⟨fun i m H => m = xs.length - i ∧ i ≤ xs.length ∧ Ex H1 H ∧ H D = some (.lst (ls.take i).flatten), ⟨xs.length, by simp, Nat.zero_le _, Ex.new hD, by simpa using upd_same⟩, ?_⟩
  rintro i m H ⟨rfl, hi, e, hDl⟩
  have hl' : SqL K H a xs := sql_kp hl fun o z => e _ _ z
  by_cases hlt : i < xs.length
  · have hx : xs[i]? = some xs[i] := List.getElem?_eq_getElem hlt
    have hls : ls[i]? = some ls[i] := List.getElem?_eq_getElem (by omega)
    refine .inr ⟨⟨xs, xs[i], hl', hx⟩, fun H' => Ex H1 H' ∧ H' D = some (.lst (ls.take (i + 1)).flatten), fun H' q => ⟨xs.length - (i + 1), by omega, rfl, hlt, q⟩, fun x H' y => ?_⟩
    obtain ⟨e', y⟩ := y
    subst e'
    have hx' := y xs hl'
    refine mg _ _ _ _ _ (fun s2 h2 q => ?_) (hs i x H' hx' e (by rw [hDl]; simp))
    obtain ⟨q1, q2, q3, q4⟩ := q
    subst q3
    refine ⟨q1, ?_⟩
    show wi1 s2 h2 _
    refine q2 _ fun b H4 e4 nb hb => ?_
    rw [List.getD_eq_getElem?_getD, hls] at hb
    have hb : SqL K H4 b ls[i] := hb
    have fl := flat_le ls (i + 1)
    rw [flat_take hls, List.length_append] at fl
    refine ⟨fun j k H => k = ls[i].length - j ∧ j ≤ ls[i].length ∧ Ex H1 H ∧ SqL K H b ls[i] ∧ H D = some (.lst ((ls.take i).flatten ++ ls[i].take j)), ⟨ls[i].length, by simp, Nat.zero_le _, e.trans e4, hb, by simpa using e4 _ _ hDl⟩, ?_⟩
    rintro j k H5 ⟨rfl, hj, e5, hb5, hD5⟩
    by_cases hjl : j < ls[i].length
    · have hz : ls[i][j]? = some ls[i][j] := List.getElem?_eq_getElem hjl
      refine .inr ⟨⟨_, _, hb5, hz⟩, fun H' => Ex H1 H' ∧ SqL K H' b ls[i] ∧ H' D = some (.lst ((ls.take i).flatten ++ ls[i].take (j + 1))), fun H' q => ⟨ls[i].length - (j + 1), by omega, rfl, hjl, q⟩, fun x2 H' y => ?_⟩
      obtain ⟨e', y⟩ := y
      subst e'
      have hz2 := y _ hb5
      rw [hz] at hz2
      cases hz2
      refine mg1 _ _ _ _ _ (fun s3 h3 q => ?_) (q4 ls[i][j] H' (fun y H7 => ∃ acc, H7 D = some (.lst acc) ∧ acc.length < sizeLine ∧ Ex H1 (upd H7 D (.lst (acc ++ [y]))) ∧ SqL K (upd H7 D (.lst (acc ++ [y]))) b ls[i] ∧ (upd H7 D (.lst (acc ++ [y]))) D = some (.lst ((ls.take i).flatten ++ ls[i].take (j + 1)))) ⟨_, hD5, lt_line (by rw [List.length_append, List.length_take]; omega), Ex.mut e5 hD, sql_kp hb5 fun o z => by rw [upd_ne nb]; exact z, ?_⟩)
      · exact q
      · rw [upd_same, take_one hz, List.append_assoc]
    · have ej : j = ls[i].length := by omega
      refine .inl ⟨⟨_, hb5, by omega⟩, e5, ?_⟩
      rw [hD5, flat_take hls, ej, List.take_length]
  · have ei : i = xs.length := by omega
    subst ei
    refine .inl ⟨⟨xs, hl', Nat.le_refl _⟩, hd H e ?_⟩
    rw [hDl, ← len, List.take_length]
end
end Jk

namespace Jk
open PySem L2 Evl
section
variable {X : Cx}
theorem inV_ints (n : Int) (ns : List Int) : inV (.int n) (ns.map V.int) = decide (n ∈ ns) := by
  unfold inV
  rw [List.any_map]
  induction ns with
  | nil => rfl
  | cons m ns ih =>
    rw [List.any_cons, ih]
    by_cases h : n = m
    · simp [eqV, h]
    · have h' : ¬ m = n := fun z => h z.symm
      simp [eqV, h, h']
theorem flat_ints (ns : List Int) : (ns.map V.int).all flatV = true := by
  rw [List.all_map]
  exact List.all_eq_true.mpr fun _ _ => rfl
def jInI : R2 := fun x y H Q => ∃ n l, x = .int n ∧ y = .ref l ∧ ∃ ns, LsI H l ns ∧ Q (.bl (decide (n ∈ ns))) H
theorem op_inI : OpR X (compareOp .In) jInI := opBy op_in_seq fun x y H Q ⟨n, l, e1, e2, ns, h, q⟩ => by
  subst e1 e2
  exact ⟨l, _, rfl, .inl (.inl (.inl h)), rfl, flat_ints ns, by simpa [inV_ints] using q⟩
@[simp] theorem j_inI {n : Int} {l : Addr} {H : Hp} {Q : VK} : jInI (.int n) (.ref l) H Q = ∃ ns, LsI H l ns ∧ Q (.bl (decide (n ∈ ns))) H := by simp [jInI]
def jNotInI : R2 := fun x y H Q => ∃ n l, x = .int n ∧ y = .ref l ∧ ∃ ns, LsI H l ns ∧ Q (.bl (!decide (n ∈ ns))) H
theorem op_notInI : OpR X (compareOp .NotIn) jNotInI := opBy op_notIn_seq fun x y H Q ⟨n, l, e1, e2, ns, h, q⟩ => by
  subst e1 e2
  exact ⟨l, _, rfl, .inl (.inl (.inl h)), rfl, flat_ints ns, by simpa [inV_ints] using q⟩
@[simp] theorem j_notInI {n : Int} {l : Addr} {H : Hp} {Q : VK} : jNotInI (.int n) (.ref l) H Q = ∃ ns, LsI H l ns ∧ Q (.bl (!decide (n ∈ ns))) H := by simp [jNotInI]
end
end Jk

namespace Jk
/-! ## trees turned -/
mutual
def Tr.turn : Tr → Tr
  | .pt n => .pt n
  | .nd j ts => .nd (!j) (turnL ts)
def turnL : List Tr → List Tr
  | [] => []
  | t :: ts => t.turn :: turnL ts
end
theorem turnL_map (ts : List Tr) : turnL ts = ts.map Tr.turn := by
  induction ts with
  | nil => rfl
  | cons t ts ih => rw [turnL, ih]; rfl
mutual
theorem turn_pts : ∀ t : Tr, t.turn.pts = t.pts
  | .pt n => by rw [Tr.turn]
  | .nd j ts => by rw [Tr.turn, Tr.pts, Tr.pts, turnL_pts ts]
theorem turnL_pts : ∀ ts : List Tr, ptsL (turnL ts) = ptsL ts
  | [] => by rw [turnL]
  | t :: ts => by rw [turnL, ptsL, ptsL, turn_pts t, turnL_pts ts]
end
mutual
theorem turn_dep : ∀ t : Tr, t.turn.dep = t.dep
  | .pt n => by rw [Tr.turn]
  | .nd j ts => by rw [Tr.turn, Tr.dep, Tr.dep, turnL_dep ts]
theorem turnL_dep : ∀ ts : List Tr, depL (turnL ts) = depL ts
  | [] => by rw [turnL]
  | t :: ts => by rw [turnL, depL, depL, turn_dep t, turnL_dep ts]
end
mutual
theorem turn_turn : ∀ t : Tr, t.turn.turn = t
  | .pt n => by rw [Tr.turn, Tr.turn]
  | .nd j ts => by rw [Tr.turn, Tr.turn, turnL_turnL ts, Bool.not_not]
theorem turnL_turnL : ∀ ts : List Tr, turnL (turnL ts) = ts
  | [] => by rw [turnL, turnL]
  | t :: ts => by rw [turnL, turnL, turn_turn t, turnL_turnL ts]
end
theorem turn_least : ∀ t : Tr, t.turn.least = t.least
  | .pt n => by rw [Tr.turn]
  | .nd j [] => by rw [Tr.turn, Tr.least, Tr.least, turnL]
  | .nd j (t :: ts) => by rw [Tr.turn, Tr.least, Tr.least, turnL, leastL, leastL, turn_least t]
theorem turn_wd : ∀ t : Tr, t.turn.wd = t.wd.map (!·)
  | .pt n => by rw [Tr.turn]; rfl
  | .nd j ts => by rw [Tr.turn]; rfl
mutual
theorem turn_form : ∀ t : Tr, t.form → t.turn.form
  | .pt n, h => by rw [Tr.turn]; exact h
  | .nd j ts, h => by
    rw [Tr.form] at h
    rw [Tr.turn, Tr.form, turnL_map, List.length_map, List.map_map]
    have e : (Tr.least ∘ Tr.turn) = Tr.least := funext turn_least
    rw [e, ← turnL_map]
    exact ⟨h.1, h.2.1, turnL_form ts h.2.2⟩
theorem turnL_form {j : Bool} : ∀ ts : List Tr, formL j ts → formL (!j) (turnL ts)
  | [], _ => by simp [turnL, formL]
  | t :: ts, h => by
    rw [formL] at h
    rw [turnL, formL]
    refine ⟨turn_form t h.1, fun e => h.2.1 ?_, turnL_form ts h.2.2⟩
    rw [turn_wd] at e
    cases w : t.wd with
    | none => rw [w] at e; cases e
    | some i =>
      rw [w] at e
      cases i <;> cases j <;> simp at e ⊢
end
mutual
/-- what is tied is tied no more, and the other way round -/
theorem turn_tie : ∀ (t : Tr) (a b : Int), t.pts.Nodup → a ≠ b → a ∈ t.pts → b ∈ t.pts → t.turn.tie a b = !t.tie a b
  | .pt n, a, b, _, ne, h1, h2 => by
    simp [Tr.pts] at h1 h2
    exact absurd (h1.trans h2.symm) ne
  | .nd j ts, a, b, nd, ne, _, _ => by
    rw [Tr.pts] at nd
    rw [Tr.turn, Tr.tie, Tr.tie, turnL_tie j ts a b nd ne]
theorem turnL_tie (j : Bool) : ∀ (ts : List Tr) (a b : Int), (ptsL ts).Nodup → a ≠ b → tieL (!j) (turnL ts) a b = !tieL j ts a b
  | [], a, b, _, _ => by rw [turnL, tieL, tieL]
  | t :: ts, a, b, nd, ne => by
    have nd1 := nd_part nd (t := t) (by simp)
    rw [ptsL] at nd
    rw [turnL, tieL, tieL, turn_pts]
    by_cases h : a ∈ t.pts ∧ b ∈ t.pts
    · rw [if_pos h, if_pos h, turn_tie t a b nd1 ne h.1 h.2]
    · rw [if_neg h, if_neg h, turnL_tie j ts a b (List.nodup_append.mp nd).2.1 ne]
end
end Jk

namespace Jk
open PySem L2 Evl
/-! ## repr of small data -/
structure Rp (d : PyData) (w p : Nat) : Prop where
  can : d.canLay0 = true
  shw : d.showable = true
  nod : d.hasDict = false
  dep : d.depth ≤ p
  wgt : d.weight ≤ w
  sho : d.intsShort 13 = true
structure RpL (ds : List PyData) (w p : Nat) : Prop where
  can : PyData.canLayAll0 ds = true
  shw : PyData.showableAll ds = true
  nod : PyData.hasDictAll ds = false
  dep : PyData.depthAll ds ≤ p
  wgt : PyData.weightAll ds ≤ w
  sho : PyData.intsShortAll 13 ds = true
theorem RpL.nil (w p : Nat) : RpL [] w p := ⟨rfl, rfl, rfl, Nat.zero_le _, Nat.zero_le _, rfl⟩
theorem RpL.cons {d : PyData} {ds : List PyData} {w1 w2 p : Nat} (h : Rp d w1 p) (t : RpL ds w2 p) : RpL (d :: ds) (w1 + 1 + w2) p := by
  obtain ⟨a1, a2, a3, a4, a5, a6⟩ := h
  obtain ⟨b1, b2, b3, b4, b5, b6⟩ := t
  refine ⟨by simp [PyData.canLayAll0, a1, b1], by simp [PyData.showableAll, a2, b2], by simp [PyData.hasDictAll, a3, b3], by simp only [PyData.depthAll]; omega, by simp only [PyData.weightAll]; omega, by simp [PyData.intsShortAll, a6, b6]⟩
theorem RpL.mono {ds : List PyData} {w w' p p' : Nat} (h : RpL ds w p) (a : w ≤ w') (b : p ≤ p') : RpL ds w' p' := ⟨h.can, h.shw, h.nod, Nat.le_trans h.dep b, Nat.le_trans h.wgt a, h.sho⟩
theorem Rp.mono {d : PyData} {w w' p p' : Nat} (h : Rp d w p) (a : w ≤ w') (b : p ≤ p') : Rp d w' p' := ⟨h.can, h.shw, h.nod, Nat.le_trans h.dep b, Nat.le_trans h.wgt a, h.sho⟩
theorem RpL.list {ds : List PyData} {w p : Nat} (h : RpL ds w p) : Rp (.list ds) w (p + 1) :=
  ⟨by simpa [PyData.canLay0] using h.can, by simpa [PyData.showable] using h.shw, by simpa [PyData.hasDict] using h.nod, by have := h.dep; simp only [PyData.depth]; omega, by have := h.wgt; simp only [PyData.weight]; omega, by simpa [PyData.intsShort] using h.sho⟩
theorem RpL.tuple {ds : List PyData} {w p : Nat} (h : RpL ds w p) : Rp (.tuple ds) w (p + 1) :=
  ⟨by simpa [PyData.canLay0] using h.can, by simpa [PyData.showable] using h.shw, by simpa [PyData.hasDict] using h.nod, by have := h.dep; simp only [PyData.depth]; omega, by have := h.wgt; simp only [PyData.weight]; omega, by simpa [PyData.intsShort] using h.sho⟩
theorem Rp.int {i : Int} (h : 0 ≤ i ∧ i < 1000) : Rp (.int i) 10 0 := by
  have hl : i.natAbs.log2 < 10 := by
    by_cases h0 : i.natAbs = 0
    · rw [h0]; decide
    · exact (Nat.log2_lt h0).mpr (by omega)
  refine ⟨rfl, ?_, rfl, Nat.le_refl _, ?_, ?_⟩
  · simp only [PyData.showable, decide_eq_true_eq]; omega
  · simp only [PyData.weight]; split <;> omega
  · simp only [PyData.intsShort, PyData.shown]
    refine decide_eq_true ?_
    exact Nat.le_trans (PyProof.Rows.toString_length_le h.1 (k := 3) (by decide) (by omega)) (show 3 ≤ 13 by decide)
theorem Rp.word (j : Bool) : Rp (.str (wdS j)) 4 0 := by cases j <;> exact ⟨by decide +kernel, rfl, rfl, Nat.le_refl _, by decide +kernel, rfl⟩
theorem Rp.len {d : PyData} {w p : Nat} (h : Rp d w p) (hw : w ≤ 2 ^ 20) (hp : p ≤ 60) : d.shown.length ≤ sizeLine := by
  refine Nat.le_trans (PyProof.Rows.shown_le13 ?_ h.sho) (by rw [sizeLine_eq]; decide)
  show (d.canLay0 && decide (PyData.depth d ≤ 64) && decide (PyData.weight d ≤ 2 ^ 20)) = true
  have h1 := h.dep
  have h2 := h.wgt
  simp only [h.can, Bool.true_and, Bool.and_eq_true, decide_eq_true_eq]
  exact ⟨by omega, by omega⟩
theorem RpL.ints : ∀ {ns : List Int}, (∀ n ∈ ns, 0 ≤ n ∧ n < 1000) → RpL (ns.map PyData.int) (11 * ns.length) 0
  | [], _ => RpL.nil _ _
  | n :: ns, h => by
    have := RpL.cons (Rp.int (h n (by simp))) (RpL.ints (ns := ns) fun m hm => h m (by simp [hm]))
    exact this.mono (by simp only [List.length_cons]; omega) (Nat.le_refl _)
theorem RpL.pairs : ∀ {ps : List (Int × Int)}, (∀ p ∈ ps, (0 ≤ p.1 ∧ p.1 < 1000) ∧ (0 ≤ p.2 ∧ p.2 < 1000)) → RpL (ps.map pd) (23 * ps.length) 1
  | [], _ => RpL.nil _ _
  | p :: ps, h => by
    have hp := h p (by simp)
    have a := (RpL.cons (Rp.int hp.1) (RpL.cons (Rp.int hp.2) (RpL.nil 0 0))).tuple
    have := RpL.cons (d := pd p) a (RpL.pairs (ps := ps) fun m hm => h m (by simp [hm]))
    exact this.mono (by simp only [List.length_cons]; omega) (Nat.le_refl _)
mutual
theorem Rp.tree : ∀ {t : Tr}, t.form → (∀ n ∈ t.pts, 0 ≤ n ∧ n < 1000) → Rp t.data (40 * t.pts.length - 30) (2 * t.dep)
  | .pt n, _, h => by
    rw [Tr.data, Tr.pts, Tr.dep]
    exact Rp.int (h n (by simp [Tr.pts]))
  | .nd j ts, hf, h => by
    rw [Tr.form] at hf
    rw [Tr.pts] at h
    have hl := RpL.trees (ts := ts) (fun t ht => (formL_iff.mp hf.2.2 t ht).1) h
    have hp : ts.length ≤ (ptsL ts).length := by
      have gen : ∀ ts : List Tr, (∀ t ∈ ts, t.form) → ts.length ≤ (ptsL ts).length := by
        intro ts
        induction ts with
        | nil => intro _; exact Nat.zero_le _
        | cons t ts ih =>
          intro hh
          have := t.dep_lt (hh t (by simp))
          have := ih fun u hu => hh u (by simp [hu])
          rw [ptsL, List.length_append, List.length_cons]
          omega
      exact gen ts fun t ht => (formL_iff.mp hf.2.2 t ht).1
    have := (RpL.cons ((Rp.word j).mono (Nat.le_refl _) (Nat.zero_le _)) (RpL.cons hl.tuple (RpL.nil 0 _))).tuple
    rw [Tr.data, Tr.pts, Tr.dep]
    exact this.mono (by omega) (by omega)
theorem RpL.trees : ∀ {ts : List Tr}, (∀ t ∈ ts, t.form) → (∀ n ∈ ptsL ts, 0 ≤ n ∧ n < 1000) → RpL (dataL ts) (40 * (ptsL ts).length - 29 * ts.length) (2 * depL ts)
  | [], _, _ => by rw [dataL]; exact RpL.nil _ _
  | t :: ts, hf, h => by
    rw [ptsL] at h
    have h1 := Rp.tree (t := t) (hf t (by simp)) fun n hn => h n (by simp [hn])
    have h2 := RpL.trees (ts := ts) (fun u hu => hf u (by simp [hu])) fun n hn => h n (by simp [hn])
    have dl := t.dep_lt (hf t (by simp))
    have hp : ts.length ≤ (ptsL ts).length := by
      have gen : ∀ ts : List Tr, (∀ t ∈ ts, t.form) → ts.length ≤ (ptsL ts).length := by
        intro ts
        induction ts with
        | nil => intro _; exact Nat.zero_le _
        | cons t ts ih =>
          intro hh
          have := t.dep_lt (hh t (by simp))
          have := ih fun u hu => hh u (by simp [hu])
          rw [ptsL, List.length_append, List.length_cons]
          omega
      exact gen ts fun u hu => hf u (by simp [hu])
    rw [dataL, ptsL, depL, List.length_append, List.length_cons]
    exact (RpL.cons (h1.mono (Nat.le_refl _) (show 2 * t.dep ≤ 2 * max t.dep (depL ts) by omega)) (h2.mono (Nat.le_refl _) (show 2 * depL ts ≤ 2 * max t.dep (depL ts) by omega))).mono (by omega) (Nat.le_refl _)
end
section
variable {X : Cx}
def jRepr (K : PySem.W.Frag) : List V → Hp → VK → Prop := fun vs H Q => ∃ (x : V) (d : PyData) (w p : Nat), vs = [x] ∧ Dp K H x d ∧ Rp d w p ∧ w ≤ 2 ^ 20 ∧ p ≤ 60 ∧ Q (.str d.shown) H
theorem call_reprA {K0 : PySem.W.Frag} (hg : X.A.guards = some []) (hu : X.A.units + 64 < cLine) (hK : X.K = K0 := by rfl) : CallR X (.builtin "repr") (jRepr K0) := by
  subst hK
  intro pins s σ H xs us Q I r h
  obtain ⟨x, d, w, p, rfl, hd, hr, hw, hp, q⟩ := h
  have ref : ∀ a, x = .ref a → wpAny (model X.prog X.w) X.A (call (.builtin "repr") us) (EP X pins σ Q) X.xe s := fun a e => by
    subst e
    exact call_reprD hg hu pins s σ H _ us Q I r ⟨a, d, rfl, hd, hr.shw, hr.nod, by have := hr.dep; omega, hr.len hw hp, q⟩
  obtain ⟨u, rfl, ru⟩ := vals1 r
  cases hd with
  | non => cases ru; exact PySem.P.repr_of_none ⟨.str (PyData.shown .none), H, I.kept (t' := s.toks + 1) (fun _ _ z => z), ⟨_, rfl⟩, q⟩
  | bl b => cases ru; exact PySem.P.repr_of_bool ⟨.str (PyData.shown (.bool b)), H, I.kept (t' := s.toks + 1) (fun _ _ z => z), ⟨_, rfl⟩, q⟩
  | int i =>
    obtain ⟨t, rfl⟩ := ru
    have hi := hr.shw
    exact PySem.P.repr_of_int (by simpa [PyData.showable] using hi) ⟨.str (PyData.shown (.int i)), H, I.kept (t' := s.toks + 1) (fun _ _ z => z), ⟨_, rfl⟩, q⟩
  | str y =>
    obtain ⟨t, rfl⟩ := ru
    exact PySem.P.repr_of_str ⟨.str (PyData.shown (.str y)), H, I.kept (t' := s.toks + 1) (fun _ _ z => z), ⟨_, rfl⟩, q⟩ (hr.len hw hp)
  | lst h1 h2 => exact ref _ rfl
  | tup h1 h2 => exact ref _ rfl
end
end Jk

namespace Jk
open PySem L2 Evl
/-! lists of truths -/
def LsB (H : Hp) (l : Addr) (ns : List Bool) : Prop := H l = some (.lst (ns.map V.bl))
theorem LsB.uniq {H : Hp} {l : Addr} {ns ms : List Bool} (h : LsB H l ns) (g : LsB H l ms) : ms = ns := by
  unfold LsB at h g
  rw [h] at g
  exact ((List.map_inj_right (fun x y h => by cases h; rfl)).mp (HO.lst.inj (Option.some.inj g))).symm
theorem lsB_ex {H : Hp} {l : Addr} {ns : List Bool} {R : List Bool → Prop} (h : LsB H l ns) : (∃ ms, LsB H l ms ∧ R ms) ↔ R ns := ⟨fun ⟨_, a, b⟩ => by rw [← h.uniq a]; exact b, fun r => ⟨ns, h, r⟩⟩
theorem dpBs {K : PySem.W.Frag} {H : Hp} : ∀ ns : List Bool, DpAll K H (ns.map V.bl) (ns.map PyData.bool)
  | [] => .nil
  | n :: ns => .cons (.bl n) (dpBs ns)
theorem dpB {K : PySem.W.Frag} {H : Hp} {l : Addr} {ns : List Bool} (h : LsB H l ns) : Dp K H (.ref l) (.list (ns.map .bool)) := .lst (.inl (.inl h)) (dpBs ns)
theorem bs_can : ∀ ns : List Bool, PyData.canLayAll0 (ns.map PyData.bool) = true
  | [] => rfl
  | n :: ns => by simp [PyData.canLayAll0, PyData.canLay0, bs_can ns]
theorem bs_dep : ∀ ns : List Bool, PyData.depthAll (ns.map PyData.bool) = 0
  | [] => rfl
  | n :: ns => by simp [PyData.depthAll, PyData.depth, bs_dep ns]
theorem bs_shaped (ns : List Bool) : SeqAt.shaped (.list (ns.map PyData.bool)) = true := by
  show (PyData.canLay0 (.list (ns.map PyData.bool)) && decide (PyData.depth (.list (ns.map PyData.bool)) ≤ 64)) = true
  simp [PyData.canLay0, bs_can, PyData.depth, bs_dep]
theorem bs_eqv (ns ms : List Bool) : PyData.eqv (.list (ns.map PyData.bool)) (.list (ms.map PyData.bool)) = decide (ns = ms) := by
  rw [PyData.eqv]
  induction ns generalizing ms with
  | nil => cases ms <;> simp [PyData.eqvAll]
  | cons n ns ih =>
    cases ms with
    | nil => simp [PyData.eqvAll]
    | cons m ms =>
      rw [List.map_cons, List.map_cons, PyData.eqvAll, ih]
      by_cases h : n = m
      · simp [PyData.eqv, h]
      · simp [PyData.eqv, h]
section
variable {X : Cx}
def jNeB : R2 := fun x y H Q => ∃ t l, x = .ref t ∧ y = .ref l ∧ ∃ prs, LsB H t prs ∧ ∃ qrs, LsB H l qrs ∧ Q (.bl (!decide (prs = qrs))) H
theorem op_neB (hu : X.A.units + 64 < cLine) : OpR X (compareOp .NotEq) jNeB := opBy (op_neD hu) fun x y H Q ⟨t, l, e1, e2, prs, h1, qrs, h2, q⟩ => ⟨_, _, by rw [e1]; exact dpB h1, by rw [e2]; exact dpB h2, bs_shaped prs, bs_shaped qrs, by rw [bs_eqv]; exact q⟩
@[simp] theorem j_neB {t l : Addr} {H : Hp} {Q : VK} : jNeB (.ref t) (.ref l) H Q = ∃ prs, LsB H t prs ∧ ∃ qrs, LsB H l qrs ∧ Q (.bl (!decide (prs = qrs))) H := by simp [jNeB]
end
/-! repr, read -/
theorem repr_ints {K : PySem.W.Frag} {H : Hp} {l : Addr} {ns : List Int} {Q : VK} (h : LsI H l ns) (b : ∀ n ∈ ns, 0 ≤ n ∧ n < 1000) (few : ns.length ≤ 1000) (q : Q (.str (PyData.list (ns.map .int)).shown) H) : jRepr K [.ref l] H Q :=
  ⟨_, _, _, _, rfl, dpI h, (RpL.ints b).list, by omega, by omega, q⟩
theorem repr_tree {K : PySem.W.Frag} {H : Hp} {v : V} {t : Tr} {Q : VK} (h : ToldAt H v t) (f : t.form) (b : ∀ n ∈ t.pts, 0 ≤ n ∧ n < 1000) (few : t.pts.length ≤ 31) (q : Q (.str t.data.shown) H) : jRepr K [v] H Q :=
  ⟨_, _, _, _, rfl, told_dp t v h, Rp.tree f b, by omega, by have := t.dep_lt f; omega, q⟩
end Jk

namespace Jk
open PySem L2 Evl
section
variable {X : Cx}
/-! slices of a list that may be frozen -/
def jSlS (K : PySem.W.Frag) : V → Option Int → Option Int → Hp → VK → Prop := fun x lo hi H Q => ∃ a xs, x = .ref a ∧ SqL K H a xs ∧ (∀ i, lo = some i → 0 ≤ i) ∧ (∀ i, hi = some i → 0 ≤ i) ∧
  ∀ p H2, H p = none → Ex H H2 → H2 p = some (.lst ((hiT xs hi).drop (loN lo))) → Q (.ref p) H2
theorem sl_seqJ {K0 : PySem.W.Frag} (hK : X.K = K0 := by rfl) : SlR X (jSlS K0) := by
  subst hK
  exact fun pins s σ H x v vl vu lo hi sl Q I rx hs pl pu ⟨a, xs, e, h, h1, h2, k⟩ => sl_list pins s σ H x v vl vu lo hi sl Q I rx hs pl pu ⟨a, xs, e, h, fun p hp => by
    have z := k p (L2.upd H p (.lst (cutV xs lo hi))) hp (Ex.new hp) (by rw [upd_same, cut_eq xs lo hi h1 h2])
    exact z⟩
@[simp] theorem j_slS {K : PySem.W.Frag} {a : Addr} {lo hi : Option Int} {H : Hp} {Q : VK} : jSlS K (.ref a) lo hi H Q = ∃ xs, SqL K H a xs ∧ (∀ i, lo = some i → 0 ≤ i) ∧ (∀ i, hi = some i → 0 ≤ i) ∧
  ∀ p H2, H p = none → Ex H H2 → H2 p = some (.lst ((hiT xs hi).drop (loN lo))) → Q (.ref p) H2 := by simp [jSlS]
@[simp] theorem j_sliceS {K : PySem.W.Frag} {te : TE} {tl th : TO} {σ : L2.St} {H : Hp} {Q : VK} : tSl (jSlS K) te tl th σ H Q = te σ H fun x H1 => tl σ H1 fun l H2 => th σ H2 fun u H3 => jSlS K x l u H3 Q := rfl
/-! told trees that are the same -/
theorem tree_shaped {t : Tr} (f : t.form) (b : ∀ n ∈ t.pts, 0 ≤ n ∧ n < 1000) (few : t.pts.length ≤ 31) : SeqAt.shaped t.data = true := by
  have h := Rp.tree f b
  have := t.dep_lt f
  have hd := h.dep
  show (t.data.canLay0 && decide (t.data.depth ≤ 64)) = true
  rw [h.can]
  simp
  omega
def jNeSame (K : PySem.W.Frag) : R2 := fun x y H Q => ∃ t : Tr, ToldAt H x t ∧ ToldAt H y t ∧ t.form ∧ (∀ n ∈ t.pts, 0 ≤ n ∧ n < 1000) ∧ t.pts.length ≤ 31 ∧ Q (.bl false) H
theorem op_neSame {K0 : PySem.W.Frag} (hu : X.A.units + 64 < cLine) : OpR X (compareOp .NotEq) (jNeSame K0) := opBy (op_neD hu) fun x y H Q ⟨t, h1, h2, f, b, few, q⟩ =>
  ⟨_, _, told_dp t x h1, told_dp t y h2, tree_shaped f b few, tree_shaped f b few, by rw [PySem.SeqAt.eqv_refl _ (Rp.tree f b).can]; exact q⟩
end
end Jk

namespace Jk
/-! ## trees laid together -/
def srtT (l : List Tr) : List Tr := l.mergeSort fun a b => decide (a.least ≤ b.least)
theorem srtT_perm (l : List Tr) : (srtT l).Perm l := List.mergeSort_perm _ _
theorem srtT_le (l : List Tr) : (srtT l).Pairwise fun a b => a.least ≤ b.least := by
  have z := List.pairwise_mergeSort (le := fun a b : Tr => decide (a.least ≤ b.least)) (fun a b c h1 h2 => decide_eq_true (Int.le_trans (of_decide_eq_true h1) (of_decide_eq_true h2))) (fun a b => by
    by_cases h : a.least ≤ b.least
    · simp [h]
    · simp [show b.least ≤ a.least by omega]) l
  exact z.imp fun h => of_decide_eq_true h
/-- unlike least points -/
def DistL (l : List Tr) : Prop := (l.map Tr.least).Nodup
theorem DistL.perm {l m : List Tr} (h : DistL l) (p : l.Perm m) : DistL m := (p.map Tr.least).nodup_iff.mp h
theorem distL_of {l : List Tr} (f : ∀ t ∈ l, t.form) (nd : (ptsL l).Nodup) : DistL l := by
  induction l with
  | nil => exact List.nodup_nil
  | cons t l ih =>
    rw [ptsL] at nd
    obtain ⟨_, n2, n3⟩ := List.nodup_append.mp nd
    refine List.nodup_cons.mpr ⟨fun h => ?_, ih (fun u hu => f u (by simp [hu])) n2⟩
    obtain ⟨u, hu, e⟩ := List.mem_map.mp h
    have h1 := least_in t (f t (by simp))
    have h2 := least_in u (f u (by simp [hu]))
    exact n3 _ h1 _ (mem_ptsL.mpr ⟨u, hu, h2⟩) e.symm
theorem sorted_uniq : ∀ {l m : List Tr}, l.Perm m → DistL l → l.Pairwise (fun a b => a.least ≤ b.least) → m.Pairwise (fun a b => a.least ≤ b.least) → l = m
  | [], m, p, _, _, _ => (List.nil_perm.mp p).symm
  | a :: l, [], p, _, _, _ => by have := p.length_eq; simp at this
  | a :: l, b :: m, p, d, h, g => by
    have ea : a = b := by
      have x1 := (List.pairwise_cons.mp h).1
      have y1 := (List.pairwise_cons.mp g).1
      rcases List.mem_cons.mp (p.mem_iff.mp (List.mem_cons_self (a := a))) with e | e
      · exact e
      · rcases List.mem_cons.mp (p.mem_iff.mpr (List.mem_cons_self (a := b))) with e' | e'
        · exact e'.symm
        · have := x1 b e'
          have := y1 a e
          have e2 : a.least = b.least := by omega
          have d' := (List.nodup_cons.mp d).1
          exact absurd (List.mem_map.mpr ⟨b, e', e2.symm⟩) d'
    subst ea
    rw [sorted_uniq ((List.perm_cons a).mp p) (List.nodup_cons.mp d).2 (List.pairwise_cons.mp h).2 (List.pairwise_cons.mp g).2]
theorem srtT_uniq {l m : List Tr} (p : m.Perm l) (d : DistL l) (h : m.Pairwise fun a b => a.least ≤ b.least) : m = srtT l := sorted_uniq (p.trans (srtT_perm l).symm) (d.perm p.symm) h (srtT_le l)
theorem srtT_of_perm {l m : List Tr} (p : l.Perm m) (d : DistL l) : srtT l = srtT m := srtT_uniq ((srtT_perm l).trans p) (d.perm p) (srtT_le l)
/-- what a tree brings to one of the word j -/
def brings (j : Bool) : Tr → List Tr
  | .pt n => [.pt n]
  | .nd i ts => if i = j then ts else [.nd i ts]
theorem brings_nd (j i : Bool) (ts : List Tr) : brings j (.nd i ts) = if i = j then ts else [.nd i ts] := rfl
def lay (j : Bool) (a b : Tr) : Tr := .nd j (srtT (brings j a ++ brings j b))
theorem ptsL_perm {l m : List Tr} (p : l.Perm m) : (ptsL l).Perm (ptsL m) := by
  rw [ptsL_flat, ptsL_flat]
  exact p.flatMap_right _
theorem brings_pts (j : Bool) (t : Tr) : ptsL (brings j t) = t.pts := by
  cases t with
  | pt n => simp [brings, ptsL, Tr.pts]
  | nd i ts =>
    rw [brings_nd]
    split
    · rw [Tr.pts]
    · simp [ptsL]
theorem brings_form {j : Bool} {t : Tr} (f : t.form) : ∀ u ∈ brings j t, u.form ∧ u.wd ≠ some j := by
  cases t with
  | pt n => intro u hu; simp [brings] at hu; subst hu; exact ⟨f, by simp [Tr.wd]⟩
  | nd i ts =>
    intro u hu
    rw [brings_nd] at hu
    split at hu
    · rename_i e
      subst e
      rw [Tr.form] at f
      exact formL_iff.mp f.2.2 u hu
    · rename_i e
      simp at hu
      subst hu
      exact ⟨f, by simp [Tr.wd, e]⟩
theorem brings_one (j : Bool) {t : Tr} (f : t.form) : 1 ≤ (brings j t).length := by
  cases t with
  | pt n => simp [brings]
  | nd i ts =>
    rw [brings_nd]
    split
    · rw [Tr.form] at f
      omega
    · simp
theorem lay_pts (j : Bool) (a b : Tr) : (lay j a b).pts.Perm (a.pts ++ b.pts) := by
  unfold lay
  rw [Tr.pts]
  refine (ptsL_perm (srtT_perm _)).trans ?_
  rw [ptsL_app, brings_pts, brings_pts]
theorem lay_dist {j : Bool} {a b : Tr} (fa : a.form) (fb : b.form) (nd : (a.pts ++ b.pts).Nodup) : DistL (brings j a ++ brings j b) := by
  refine distL_of (fun t ht => ?_) (by rw [ptsL_app, brings_pts, brings_pts]; exact nd)
  rcases List.mem_append.mp ht with h | h
  · exact (brings_form fa t h).1
  · exact (brings_form fb t h).1
theorem lay_form {j : Bool} {a b : Tr} (fa : a.form) (fb : b.form) (nd : (a.pts ++ b.pts).Nodup) : (lay j a b).form := by
  unfold lay
  rw [Tr.form]
  refine ⟨?_, ?_, formL_iff.mpr fun t ht => ?_⟩
  · rw [(srtT_perm _).length_eq, List.length_append]
    have := brings_one j fa
    have := brings_one j fb
    omega
  · have d : DistL (srtT (brings j a ++ brings j b)) := (lay_dist fa fb nd).perm (srtT_perm _).symm
    have h := srtT_le (brings j a ++ brings j b)
    rw [List.pairwise_map]
    unfold DistL List.Nodup at d
    rw [List.pairwise_map] at d
    exact (h.and d).imp fun ⟨x, y⟩ => by omega
  · rcases List.mem_append.mp ((srtT_perm _).mem_iff.mp ht) with h | h
    · exact brings_form fa t h
    · exact brings_form fb t h
theorem lay_comm {j : Bool} {a b : Tr} (fa : a.form) (fb : b.form) (nd : (a.pts ++ b.pts).Nodup) : lay j a b = lay j b a := by
  unfold lay
  rw [srtT_of_perm List.perm_append_comm (lay_dist fa fb nd)]
theorem brings_lay (j : Bool) (a b : Tr) : brings j (lay j a b) = srtT (brings j a ++ brings j b) := by unfold lay; rw [brings_nd, if_pos rfl]
theorem lay_assoc {j : Bool} {a b c : Tr} (fa : a.form) (fb : b.form) (fc : c.form) (nd : (a.pts ++ b.pts ++ c.pts).Nodup) : lay j (lay j a b) c = lay j a (lay j b c) := by
  have n1 := (List.nodup_append.mp nd).1
  have n2 : (a.pts ++ (b.pts ++ c.pts)).Nodup := by rw [← List.append_assoc]; exact nd
  have n3 := (List.nodup_append.mp n2).2.1
  have fab := lay_form (j := j) fa fb n1
  have nd1 : ((lay j a b).pts ++ c.pts).Nodup := ((lay_pts j a b).append_right c.pts).nodup_iff.mpr nd
  have d := lay_dist (j := j) fab fc nd1
  have p : (brings j (lay j a b) ++ brings j c).Perm (brings j a ++ brings j (lay j b c)) := by
    rw [brings_lay, brings_lay]
    refine ((srtT_perm _).append_right _).trans ?_
    rw [List.append_assoc]
    exact (srtT_perm _).symm.append_left _
  have : srtT (brings j (lay j a b) ++ brings j c) = srtT (brings j a ++ brings j (lay j b c)) := srtT_of_perm p d
  rw [show lay j (lay j a b) c = .nd j (srtT (brings j (lay j a b) ++ brings j c)) from rfl, this]
  rfl
/-! ties of what is laid together -/
theorem tieL_in {j : Bool} : ∀ {ts : List Tr} {t : Tr} {c d : Int}, (ptsL ts).Nodup → t ∈ ts → c ∈ t.pts → d ∈ t.pts → tieL j ts c d = t.tie c d
  | [], t, c, d, _, h, _, _ => nomatch h
  | u :: ts, t, c, d, nd, h, hc, hd => by
    rw [ptsL] at nd
    obtain ⟨_, n2, n3⟩ := List.nodup_append.mp nd
    rw [tieL]
    rcases List.mem_cons.mp h with rfl | h
    · rw [if_pos ⟨hc, hd⟩]
    · rw [if_neg (fun z => n3 c z.1 c (mem_ptsL.mpr ⟨t, h, hc⟩) rfl)]
      exact tieL_in n2 h hc hd
theorem tieL_perm {j : Bool} {l m : List Tr} (p : l.Perm m) (nd : (ptsL l).Nodup) (c d : Int) : tieL j l c d = tieL j m c d := by
  have nm : (ptsL m).Nodup := (ptsL_perm p).nodup_iff.mp nd
  by_cases h : ∃ t ∈ l, c ∈ t.pts ∧ d ∈ t.pts
  · obtain ⟨t, h1, h2, h3⟩ := h
    rw [tieL_in nd h1 h2 h3, tieL_in nm (p.mem_iff.mp h1) h2 h3]
  · rw [tieL_out fun t ht z => h ⟨t, ht, z⟩, tieL_out fun t ht z => h ⟨t, p.mem_iff.mpr ht, z⟩]
theorem brings_tie (j : Bool) (t : Tr) {c d : Int} (hc : c ∈ t.pts) (hd : d ∈ t.pts) (rest : List Tr) (nd : (ptsL (brings j t ++ rest)).Nodup) : tieL j (brings j t ++ rest) c d = t.tie c d := by
  have whole : ∀ u : Tr, u = t → brings j t = [t] → tieL j (brings j t ++ rest) c d = t.tie c d := fun u _ e => by
    rw [e]
    show tieL j (t :: rest) c d = _
    rw [tieL, if_pos ⟨hc, hd⟩]
  cases t with
  | pt n => exact whole _ rfl rfl
  | nd i ts =>
    by_cases e : i = j
    · subst e
      have eb : brings i (.nd i ts) = ts := by rw [brings_nd, if_pos rfl]
      rw [eb] at nd ⊢
      rw [Tr.tie]
      by_cases h : ∃ t ∈ ts, c ∈ t.pts ∧ d ∈ t.pts
      · obtain ⟨t, h1, h2, h3⟩ := h
        have n1 : (ptsL ts).Nodup := by rw [ptsL_app] at nd; exact (List.nodup_append.mp nd).1
        rw [tieL_in nd (by simp [h1]) h2 h3, tieL_in n1 h1 h2 h3]
      · rw [tieL_out (ts := ts) fun t ht z => h ⟨t, ht, z⟩]
        refine tieL_out fun t ht z => ?_
        rcases List.mem_append.mp ht with ht | ht
        · exact h ⟨t, ht, z⟩
        · rw [Tr.pts] at hc
          rw [ptsL_app] at nd
          exact (List.nodup_append.mp nd).2.2 c hc c (mem_ptsL.mpr ⟨t, ht, z.1⟩) rfl
    · exact whole _ rfl (by rw [brings_nd, if_neg e])
theorem lay_tie {j : Bool} {a b : Tr} (nd : (a.pts ++ b.pts).Nodup) {c d : Int} (hc : c ∈ a.pts ++ b.pts) (hd : d ∈ a.pts ++ b.pts) :
    (lay j a b).tie c d = if c ∈ a.pts ∧ d ∈ a.pts then a.tie c d else if c ∈ b.pts ∧ d ∈ b.pts then b.tie c d else j := by
  have n1 : (ptsL (brings j a ++ brings j b)).Nodup := by rw [ptsL_app, brings_pts, brings_pts]; exact nd
  have p2 : (brings j a ++ brings j b).Perm (brings j b ++ brings j a) := List.perm_append_comm
  have n2 : (ptsL (brings j b ++ brings j a)).Nodup := (ptsL_perm p2).nodup_iff.mp n1
  unfold lay
  rw [Tr.tie, tieL_perm (srtT_perm _) ((ptsL_perm (srtT_perm _)).nodup_iff.mpr n1)]
  split
  · rename_i h
    exact brings_tie j a h.1 h.2 _ n1
  · split
    · rename_i h
      rw [tieL_perm p2 n1]
      exact brings_tie j b h.1 h.2 _ n2
    · rename_i h1 h2
      refine tieL_out fun t ht z => ?_
      rcases List.mem_append.mp ht with ht | ht
      · exact h1 ⟨by rw [← brings_pts j a]; exact mem_ptsL.mpr ⟨t, ht, z.1⟩, by rw [← brings_pts j a]; exact mem_ptsL.mpr ⟨t, ht, z.2⟩⟩
      · exact h2 ⟨by rw [← brings_pts j b]; exact mem_ptsL.mpr ⟨t, ht, z.1⟩, by rw [← brings_pts j b]; exact mem_ptsL.mpr ⟨t, ht, z.2⟩⟩
theorem lay_ties {j : Bool} {a b : Tr} (nd : (a.pts ++ b.pts).Nodup) : (lay j a b).ties.Perm (a.ties ++ b.ties ++ if j = true then crossL a.pts b.pts else []) := by
  obtain ⟨na, nb, nab⟩ := List.nodup_append.mp nd
  have nl : (lay j a b).pts.Nodup := (lay_pts j a b).nodup_iff.mpr nd
  have inl : ∀ {x : Int}, x ∈ (lay j a b).pts ↔ x ∈ a.pts ++ b.pts := (lay_pts j a b).mem_iff
  have ncr : (crossL a.pts b.pts).Nodup := by
    unfold crossL List.Nodup
    rw [List.pairwise_flatMap]
    refine ⟨fun x hx => ?_, ?_⟩
    · rw [List.pairwise_map]
      refine List.Pairwise.imp_of_mem (fun {b c} hb hc hne e => ?_) nb
      rcases mm_cases e with ⟨_, e⟩ | ⟨e, _⟩
      · exact hne e
      · exact nab x hx c hc e
    · refine List.Pairwise.imp_of_mem (fun {x y} hx hy hne p hp q hq e => ?_) na
      obtain ⟨u, hu, rfl⟩ := List.mem_map.mp hp
      obtain ⟨v, hv, rfl⟩ := List.mem_map.mp hq
      rcases mm_cases e with ⟨e, _⟩ | ⟨e, _⟩
      · exact hne e
      · exact nab x hx v hv e
  have nr : (a.ties ++ b.ties ++ if j = true then crossL a.pts b.pts else []).Nodup := by
    rw [List.nodup_append, List.nodup_append]
    refine ⟨⟨ties_nodup a na, ties_nodup b nb, fun p hp q hq e => ?_⟩, by split; exact ncr; exact List.nodup_nil, fun p hp q hq e => ?_⟩
    · subst e
      obtain ⟨c, hc, d, hd, e⟩ := ties_in a p hp
      obtain ⟨c', hc', d', hd', e'⟩ := ties_in b p hq
      rw [e] at e'
      rcases mm_cases e' with ⟨z, _⟩ | ⟨z, _⟩
      · exact nab c hc c' hc' z
      · exact nab c hc d' hd' z
    · subst e
      split at hq
      · obtain ⟨x, hx, y, hy, e⟩ := mem_cross.mp hq
        rcases List.mem_append.mp hp with hp | hp
        · obtain ⟨c, hc, d, hd, e'⟩ := ties_in a p hp
          rw [e] at e'
          rcases mm_cases e' with ⟨_, z⟩ | ⟨_, z⟩
          · exact nab d hd y hy z.symm
          · exact nab c hc y hy z.symm
        · obtain ⟨c, hc, d, hd, e'⟩ := ties_in b p hp
          rw [e] at e'
          rcases mm_cases e' with ⟨z, _⟩ | ⟨z, _⟩
          · exact nab x hx c hc z
          · exact nab x hx d hd z
      · cases hq
  refine (List.perm_ext_iff_of_nodup (ties_nodup _ nl) nr).mpr fun p => ?_
  rw [List.mem_append, List.mem_append]
  -- a pair that is told by either list is one of two unlike points
  have key : ∀ c d : Int, c ≠ d → c ∈ a.pts ++ b.pts → d ∈ a.pts ++ b.pts → (mmI c d ∈ (lay j a b).ties ↔ (mmI c d ∈ a.ties ∨ mmI c d ∈ b.ties) ∨ mmI c d ∈ (if j = true then crossL a.pts b.pts else [])) := fun c d ne hc hd => by
    rw [ties_tie _ nl ne (inl.mpr hc) (inl.mpr hd), lay_tie nd hc hd]
    have inA : mmI c d ∈ a.ties → c ∈ a.pts ∧ d ∈ a.pts := fun h => by
      obtain ⟨x, hx, y, hy, e⟩ := ties_in a _ h
      rcases mm_cases e with ⟨e1, e2⟩ | ⟨e1, e2⟩ <;> subst e1 e2
      · exact ⟨hx, hy⟩
      · exact ⟨hy, hx⟩
    have inB : mmI c d ∈ b.ties → c ∈ b.pts ∧ d ∈ b.pts := fun h => by
      obtain ⟨x, hx, y, hy, e⟩ := ties_in b _ h
      rcases mm_cases e with ⟨e1, e2⟩ | ⟨e1, e2⟩ <;> subst e1 e2
      · exact ⟨hx, hy⟩
      · exact ⟨hy, hx⟩
    have inC : mmI c d ∈ crossL a.pts b.pts ↔ (c ∈ a.pts ∧ d ∈ b.pts) ∨ (d ∈ a.pts ∧ c ∈ b.pts) := by
      rw [mem_cross]
      constructor
      · rintro ⟨x, hx, y, hy, e⟩
        rcases mm_cases e with ⟨e1, e2⟩ | ⟨e1, e2⟩ <;> subst e1 e2
        · exact .inl ⟨hx, hy⟩
        · exact .inr ⟨hx, hy⟩
      · rintro (⟨h1, h2⟩ | ⟨h1, h2⟩)
        · exact ⟨c, h1, d, h2, rfl⟩
        · exact ⟨d, h1, c, h2, mm_comm c d⟩
    by_cases h1 : c ∈ a.pts ∧ d ∈ a.pts
    · rw [if_pos h1, ← ties_tie a na ne h1.1 h1.2]
      have z2 : ¬ mmI c d ∈ b.ties := fun h => nab c h1.1 c (inB h).1 rfl
      have z3 : ¬ mmI c d ∈ (if j = true then crossL a.pts b.pts else []) := fun h => by
        split at h
        · rcases inC.mp h with ⟨_, z⟩ | ⟨_, z⟩
          · exact nab d h1.2 d z rfl
          · exact nab c h1.1 c z rfl
        · cases h
      simp [z2, z3]
    · rw [if_neg h1]
      have z1 : ¬ mmI c d ∈ a.ties := fun h => h1 (inA h)
      by_cases h2 : c ∈ b.pts ∧ d ∈ b.pts
      · rw [if_pos h2, ← ties_tie b nb ne h2.1 h2.2]
        have z3 : ¬ mmI c d ∈ (if j = true then crossL a.pts b.pts else []) := fun h => by
          split at h
          · rcases inC.mp h with ⟨z, _⟩ | ⟨z, _⟩
            · exact nab c z c h2.1 rfl
            · exact nab d z d h2.2 rfl
          · cases h
        simp [z1, z3]
      · rw [if_neg h2]
        have z2 : ¬ mmI c d ∈ b.ties := fun h => h2 (inB h)
        have hcr : mmI c d ∈ crossL a.pts b.pts := by
          rw [inC]
          rcases List.mem_append.mp hc with x | x <;> rcases List.mem_append.mp hd with y | y
          · exact absurd ⟨x, y⟩ h1
          · exact .inl ⟨x, y⟩
          · exact .inr ⟨y, x⟩
          · exact absurd ⟨x, y⟩ h2
        simp only [z1, z2, false_or]
        cases j <;> simp [hcr]
  constructor
  · intro h
    obtain ⟨c, hc, d, hd, rfl⟩ := ties_in _ p h
    have ne : c ≠ d := fun z => by
      subst z
      have := ties_lt _ nl _ h
      simp [mmI] at this
    exact (key c d ne (inl.mp hc) (inl.mp hd)).mp h
  · intro h
    have pr : ∃ c d, c ≠ d ∧ c ∈ a.pts ++ b.pts ∧ d ∈ a.pts ++ b.pts ∧ p = mmI c d := by
      rcases h with (h | h) | h
      · obtain ⟨c, hc, d, hd, rfl⟩ := ties_in _ p h
        refine ⟨c, d, fun z => ?_, by simp [hc], by simp [hd], rfl⟩
        subst z
        have := ties_lt _ na _ h
        simp [mmI] at this
      · obtain ⟨c, hc, d, hd, rfl⟩ := ties_in _ p h
        refine ⟨c, d, fun z => ?_, by simp [hc], by simp [hd], rfl⟩
        subst z
        have := ties_lt _ nb _ h
        simp [mmI] at this
      · split at h
        · obtain ⟨c, hc, d, hd, rfl⟩ := mem_cross.mp h
          exact ⟨c, d, nab c hc d hd, by simp [hc], by simp [hd], rfl⟩
        · cases h
    obtain ⟨c, d, ne, hc, hd, rfl⟩ := pr
    exact (key c d ne hc hd).mpr h
end Jk

namespace Jk
/-! ## how many crowds -/
/-- how many lists of points, in their order, any two of which are R -/
def cntF (R : Int → Int → Bool) : Nat → List Int → Nat
  | _, [] => 1
  | 0, _ :: _ => 1
  | f + 1, x :: l => cntF R f l + cntF R f (l.filter (R x))
def cnt (R : Int → Int → Bool) (l : List Int) : Nat := cntF R l.length l
theorem cntF_fuel (R : Int → Int → Bool) : ∀ (f g : Nat) (l : List Int), l.length ≤ f → l.length ≤ g → cntF R f l = cntF R g l
  | f, g, [], _, _ => by cases f <;> cases g <;> rfl
  | 0, _, x :: l, h, _ => by simp at h
  | _, 0, x :: l, _, h => by simp at h
  | f + 1, g + 1, x :: l, hf, hg => by
    have hf' : l.length ≤ f := by simpa using hf
    have hg' : l.length ≤ g := by simpa using hg
    show cntF R f l + cntF R f (l.filter (R x)) = cntF R g l + cntF R g (l.filter (R x))
    rw [cntF_fuel R f g l hf' hg', cntF_fuel R f g _ (Nat.le_trans (List.length_filter_le _ _) hf') (Nat.le_trans (List.length_filter_le _ _) hg')]
theorem cnt_nil (R : Int → Int → Bool) : cnt R [] = 1 := rfl
theorem cnt_cons (R : Int → Int → Bool) (x : Int) (l : List Int) : cnt R (x :: l) = cnt R l + cnt R (l.filter (R x)) := by
  unfold cnt
  show cntF R l.length l + cntF R l.length (l.filter (R x)) = _
  rw [cntF_fuel R l.length (l.filter (R x)).length _ (List.length_filter_le _ _) (Nat.le_refl _)]
theorem cnt_pos (R : Int → Int → Bool) : ∀ l : List Int, 1 ≤ cnt R l
  | [] => by rw [cnt_nil]; exact Nat.le_refl _
  | x :: l => by rw [cnt_cons]; have := cnt_pos R l; omega
theorem cnt_congr {R S : Int → Int → Bool} : ∀ (n : Nat) (l : List Int), l.length ≤ n → l.Pairwise (fun a b => R a b = S a b) → cnt R l = cnt S l
  | n, [], _, _ => by rw [cnt_nil, cnt_nil]
  | 0, x :: l, h, _ => by simp at h
  | n + 1, x :: l, h, p => by
    have hl : l.length ≤ n := by simpa using h
    obtain ⟨p1, p2⟩ := List.pairwise_cons.mp p
    rw [cnt_cons, cnt_cons, cnt_congr n l hl p2]
    have e : l.filter (R x) = l.filter (S x) := List.filter_congr fun y hy => p1 y hy
    rw [e, cnt_congr n _ (Nat.le_trans (List.length_filter_le _ _) hl) (p2.sublist List.filter_sublist)]
/-- two lots, all of one R all of the other -/
theorem cnt_all {R : Int → Int → Bool} : ∀ (n : Nat) (A B : List Int), A.length ≤ n → (∀ a ∈ A, ∀ b ∈ B, R a b = true) → cnt R (A ++ B) = cnt R A * cnt R B
  | n, [], B, _, _ => by rw [cnt_nil]; simp
  | 0, x :: A, B, h, _ => by simp at h
  | n + 1, x :: A, B, h, k => by
    have hl : A.length ≤ n := by simpa using h
    have fb : B.filter (R x) = B := List.filter_eq_self.mpr fun b hb => k x (by simp) b hb
    rw [List.cons_append, cnt_cons, cnt_cons, List.filter_append, fb, cnt_all n A B hl fun a ha b hb => k a (by simp [ha]) b hb,
      cnt_all n (A.filter (R x)) B (Nat.le_trans (List.length_filter_le _ _) hl) fun a ha b hb => k a (by simp [(List.mem_filter.mp ha).1]) b hb, Nat.add_mul]
theorem cnt_none {R : Int → Int → Bool} : ∀ (n : Nat) (A B : List Int), A.length ≤ n → (∀ a ∈ A, ∀ b ∈ B, R a b = false) → cnt R (A ++ B) + 1 = cnt R A + cnt R B
  | n, [], B, _, _ => by rw [cnt_nil, List.nil_append]; omega
  | 0, x :: A, B, h, _ => by simp at h
  | n + 1, x :: A, B, h, k => by
    have hl : A.length ≤ n := by simpa using h
    have fb : B.filter (R x) = [] := List.filter_eq_nil_iff.mpr fun b hb => by rw [k x (by simp) b hb]; simp
    rw [List.cons_append, cnt_cons, cnt_cons, List.filter_append, fb, List.append_nil]
    have := cnt_none n A B hl fun a ha b hb => k a (by simp [ha]) b hb
    omega
theorem cnt_swap (R : Int → Int → Bool) (sym : ∀ a b, R a b = R b a) (x y : Int) (l : List Int) : cnt R (x :: y :: l) = cnt R (y :: x :: l) := by
  rw [cnt_cons, cnt_cons, cnt_cons R y (x :: l), cnt_cons]
  have key : ∀ a b : Int, cnt R ((b :: l).filter (R a)) = cnt R (l.filter (R a)) + (if R a b = true then cnt R ((l.filter (R a)).filter (R b)) else 0) := fun a b => by
    rw [List.filter_cons]
    split
    · rw [cnt_cons]
    · simp
  rw [key x y, key y x, sym y x, List.filter_filter, List.filter_filter]
  have e : (l.filter fun a => R y a && R x a) = l.filter fun a => R x a && R y a := List.filter_congr fun a _ => Bool.and_comm _ _
  rw [e]
  omega
theorem cnt_perm {R : Int → Int → Bool} (sym : ∀ a b, R a b = R b a) {l m : List Int} (p : l.Perm m) : cnt R l = cnt R m := by
  have gen : ∀ (n : Nat) (l m : List Int), l.length ≤ n → l.Perm m → cnt R l = cnt R m := by
    intro n
    induction n with
    | zero =>
      intro l m h p
      have e : l = [] := List.length_eq_zero_iff.mp (by omega)
      subst e
      rw [List.nil_perm.mp p]
    | succ n ih =>
      intro l m h p
      induction p with
      | nil => rfl
      | cons x p _ =>
        rw [cnt_cons, cnt_cons]
        rename_i l1 l2 _
        have hl : l1.length ≤ n := by simpa using h
        rw [ih _ _ hl p, ih _ _ (Nat.le_trans (List.length_filter_le _ _) hl) (p.filter _)]
      | swap x y l => exact cnt_swap R sym _ _ l
      | trans p q ih1 ih2 =>
        have e := p.length_eq
        rw [ih1 h, ih2 (by omega)]
  exact gen _ l m (Nat.le_refl _) p
/-- the law's own way: one point behind the other -/
def grow1 (R : Int → Int → Bool) (some : List (List Int)) (p : Int) : List (List Int) := some ++ (some.filter fun o => o.all fun q => R q p).map fun o => o ++ [p]
def growAll (R : Int → Int → Bool) (l : List Int) : List (List Int) := l.foldl (grow1 R) [[]]
theorem growAll_snoc (R : Int → Int → Bool) (l : List Int) (p : Int) : growAll R (l ++ [p]) = grow1 R (growAll R l) p := by
  unfold growAll
  rw [List.foldl_append]
  rfl
/-- those of the lists whose points are all good, are the lists of good points -/
theorem grow_filter (R : Int → Int → Bool) (G : Int → Bool) (l : List Int) : ((growAll R l).filter fun o => o.all G).length = (growAll R (l.filter G)).length := by
  have gen : ∀ n (l : List Int), l.length = n → (growAll R l).filter (fun o => o.all G) = growAll R (l.filter G) := by
    intro n
    induction n with
    | zero =>
      intro l h
      have e : l = [] := List.length_eq_zero_iff.mp h
      subst e
      rfl
    | succ n ih =>
      intro l h
      obtain ⟨l', p, rfl⟩ : ∃ l' p, l = l' ++ [p] := ⟨l.dropLast, l.getLast (fun z => by rw [z] at h; cases h), (List.dropLast_concat_getLast _).symm⟩
      have hl : l'.length = n := by simpa using h
      have ihl := ih l' hl
      rw [growAll_snoc, List.filter_append]
      unfold grow1
      rw [List.filter_append, List.filter_map, ihl]
      by_cases hp : G p = true
      · have e1 : [p].filter G = [p] := by simp [hp]
        rw [e1, growAll_snoc]
        unfold grow1
        congr 2
        rw [List.filter_filter, ← ihl, List.filter_filter]
        refine List.filter_congr fun o _ => ?_
        simp [List.all_append, hp, Bool.and_comm]
      · have e1 : [p].filter G = [] := by simp [hp]
        rw [e1, List.append_nil]
        have e2 : ((growAll R l').filter fun o => o.all fun q => R q p).filter ((fun o => o.all G) ∘ fun o => o ++ [p]) = [] := List.filter_eq_nil_iff.mpr fun o _ => by simp [List.all_append, hp]
        rw [e2]
        simp
  rw [gen _ l rfl]
theorem growAll_len (R : Int → Int → Bool) (sym : ∀ a b, R a b = R b a) : ∀ (n : Nat) (l : List Int), l.length ≤ n → (growAll R l).length = cnt R l := by
  intro n
  induction n with
  | zero =>
    intro l h
    have e : l = [] := List.length_eq_zero_iff.mp (by omega)
    subst e
    rw [cnt_nil]; rfl
  | succ n ih =>
    intro l h
    by_cases e : l = []
    · subst e; rw [cnt_nil]; rfl
    · obtain ⟨l', p, rfl⟩ : ∃ l' p, l = l' ++ [p] := ⟨l.dropLast, l.getLast e, (List.dropLast_concat_getLast e).symm⟩
      have hl : l'.length ≤ n := by simpa using h
      rw [growAll_snoc]
      unfold grow1
      rw [List.length_append, List.length_map, grow_filter R (fun q => R q p), ih l' hl, ih _ (Nat.le_trans (List.length_filter_le _ _) hl)]
      rw [cnt_perm sym (List.perm_append_comm (l₁ := l') (l₂ := [p])), List.singleton_append, cnt_cons]
      congr 2
      exact List.filter_congr fun a _ => sym a p
/-! the program's way -/
mutual
def manyN (j : Bool) : Tr → Nat
  | .pt _ => 2
  | .nd i ts => if i = j then prodN j ts else sumN j ts
def prodN (j : Bool) : List Tr → Nat
  | [] => 1
  | t :: ts => manyN j t * prodN j ts
def sumN (j : Bool) : List Tr → Nat
  | [] => 1
  | t :: ts => manyN j t - 1 + sumN j ts
end
mutual
theorem manyN_pos (j : Bool) : ∀ t : Tr, 1 ≤ manyN j t
  | .pt _ => by rw [manyN]; omega
  | .nd i ts => by
    rw [manyN]
    split
    · exact prodN_pos j ts
    · exact sumN_pos j ts
theorem prodN_pos (j : Bool) : ∀ ts : List Tr, 1 ≤ prodN j ts
  | [] => by rw [prodN]; exact Nat.le_refl _
  | t :: ts => by rw [prodN]; exact Nat.mul_pos (manyN_pos j t) (prodN_pos j ts)
theorem sumN_pos (j : Bool) : ∀ ts : List Tr, 1 ≤ sumN j ts
  | [] => by rw [sumN]; exact Nat.le_refl _
  | t :: ts => by rw [sumN]; have := sumN_pos j ts; omega
end
mutual
theorem manyN_le (j : Bool) : ∀ t : Tr, manyN j t ≤ 2 ^ t.pts.length
  | .pt _ => by rw [manyN, Tr.pts]; simp
  | .nd i ts => by
    rw [manyN, Tr.pts]
    split
    · exact prodN_le j ts
    · exact sumN_le j ts
theorem prodN_le (j : Bool) : ∀ ts : List Tr, prodN j ts ≤ 2 ^ (ptsL ts).length
  | [] => by rw [prodN, ptsL]; simp
  | t :: ts => by
    rw [prodN, ptsL, List.length_append, Nat.pow_add]
    exact Nat.mul_le_mul (manyN_le j t) (prodN_le j ts)
theorem sumN_le (j : Bool) : ∀ ts : List Tr, sumN j ts ≤ 2 ^ (ptsL ts).length
  | [] => by rw [sumN, ptsL]; simp
  | t :: ts => by
    rw [sumN, ptsL, List.length_append, Nat.pow_add]
    have h1 := manyN_le j t
    have h2 := sumN_le j ts
    have p1 := Nat.one_le_two_pow (n := t.pts.length)
    have p2 := Nat.one_le_two_pow (n := (ptsL ts).length)
    generalize 2 ^ t.pts.length = x at *
    generalize 2 ^ (ptsL ts).length = y at *
    have : x + y ≤ x * y + 1 := by
      obtain ⟨a, rfl⟩ : ∃ a, x = a + 1 := ⟨x - 1, by omega⟩
      obtain ⟨b, rfl⟩ : ∃ b, y = b + 1 := ⟨y - 1, by omega⟩
      rw [Nat.add_mul, Nat.mul_add]
      omega
    omega
end
/-- R of a tree: tied, or not -/
def relT (j : Bool) (t : Tr) (a b : Int) : Bool := t.tie a b == j
mutual
theorem manyN_cnt (j : Bool) : ∀ t : Tr, t.pts.Nodup → cnt (relT j t) t.pts = manyN j t
  | .pt n, _ => by
    rw [Tr.pts, manyN, cnt_cons, cnt_nil]
    simp [cnt_nil]
  | .nd i ts, nd => by
    rw [Tr.pts] at nd
    rw [Tr.pts, manyN]
    have e : cnt (relT j (.nd i ts)) (ptsL ts) = cnt (fun a b => tieL i ts a b == j) (ptsL ts) := cnt_congr _ _ (Nat.le_refl _) (List.pairwise_of_forall fun a b => by unfold relT; rw [Tr.tie])
    rw [e]
    split
    · rename_i h
      exact listN_prod j i h ts nd
    · rename_i h
      exact listN_sum j i h ts nd
theorem listN_prod (j i : Bool) (h : i = j) : ∀ ts : List Tr, (ptsL ts).Nodup → cnt (fun a b => tieL i ts a b == j) (ptsL ts) = prodN j ts
  | [], _ => by rw [ptsL, prodN, cnt_nil]
  | t :: ts, nd => by
    have n0 := nd
    rw [ptsL] at nd
    obtain ⟨n1, n2, n3⟩ := List.nodup_append.mp nd
    rw [ptsL, prodN, cnt_all _ _ _ (Nat.le_refl _)]
    · congr 1
      · rw [← manyN_cnt j t n1]
        refine cnt_congr _ _ (Nat.le_refl _) (List.Pairwise.imp_of_mem (fun {a b} ha hb _ => ?_) n1)
        unfold relT
        rw [tieL, if_pos ⟨ha, hb⟩]
      · rw [← listN_prod j i h ts n2]
        refine cnt_congr _ _ (Nat.le_refl _) (List.Pairwise.imp_of_mem (fun {a b} ha hb _ => ?_) n2)
        rw [tieL, if_neg (fun z => n3 a z.1 a ha rfl)]
    · intro a ha b hb
      rw [tieL_out fun u hu z => ?_]
      · simp [h]
      · rcases List.mem_cons.mp hu with rfl | hu
        · exact n3 b z.2 b hb rfl
        · exact n3 a ha a (mem_ptsL.mpr ⟨u, hu, z.1⟩) rfl
theorem listN_sum (j i : Bool) (h : ¬ i = j) : ∀ ts : List Tr, (ptsL ts).Nodup → cnt (fun a b => tieL i ts a b == j) (ptsL ts) = sumN j ts
  | [], _ => by rw [ptsL, sumN, cnt_nil]
  | t :: ts, nd => by
    rw [ptsL] at nd
    obtain ⟨n1, n2, n3⟩ := List.nodup_append.mp nd
    rw [ptsL, sumN]
    have z := cnt_none (R := fun a b => tieL i (t :: ts) a b == j) _ t.pts (ptsL ts) (Nat.le_refl _) fun a ha b hb => by
      rw [tieL_out fun u hu z => ?_]
      · simp [h]
      · rcases List.mem_cons.mp hu with rfl | hu
        · exact n3 b z.2 b hb rfl
        · exact n3 a ha a (mem_ptsL.mpr ⟨u, hu, z.1⟩) rfl
    have e1 : cnt (fun a b => tieL i (t :: ts) a b == j) t.pts = manyN j t := by
      rw [← manyN_cnt j t n1]
      refine cnt_congr _ _ (Nat.le_refl _) (List.Pairwise.imp_of_mem (fun {a b} ha hb _ => ?_) n1)
      unfold relT
      rw [tieL, if_pos ⟨ha, hb⟩]
    have e2 : cnt (fun a b => tieL i (t :: ts) a b == j) (ptsL ts) = sumN j ts := by
      rw [← listN_sum j i h ts n2]
      refine cnt_congr _ _ (Nat.le_refl _) (List.Pairwise.imp_of_mem (fun {a b} ha hb _ => ?_) n2)
      rw [tieL, if_neg (fun z => n3 a z.1 a ha rfl)]
    rw [e1, e2] at z
    have := manyN_pos j t
    omega
end
theorem tieL_sym (j : Bool) : ∀ (ts : List Tr), (∀ t ∈ ts, ∀ a b, t.tie a b = t.tie b a) → ∀ a b, tieL j ts a b = tieL j ts b a
  | [], _, a, b => by rw [tieL, tieL]
  | t :: ts, h, a, b => by
    rw [tieL, tieL]
    by_cases z : a ∈ t.pts ∧ b ∈ t.pts
    · rw [if_pos z, if_pos z.symm, h t (by simp)]
    · rw [if_neg z, if_neg (fun w => z w.symm), tieL_sym j ts fun u hu => h u (by simp [hu])]
theorem tie_sym : ∀ (t : Tr) (a b : Int), t.tie a b = t.tie b a
  | .pt n, a, b => by rw [Tr.tie, Tr.tie]
  | .nd j ts, a, b => by
    rw [Tr.tie, Tr.tie]
    exact tieL_sym j ts (fun t _ => tie_sym t) a b
/-- as many as the law counts -/
theorem many_grow (j : Bool) (t : Tr) (nd : t.pts.Nodup) : (growAll (relT j t) (srt t.pts)).length = manyN j t := by
  have sym : ∀ a b, relT j t a b = relT j t b a := fun a b => by unfold relT; rw [tie_sym]
  rw [growAll_len _ sym _ _ (Nat.le_refl _), cnt_perm sym (srt_perm t.pts), manyN_cnt j t nd]
end Jk

namespace Jk
open PySem L2 Evl
/-! ## [n for n in ns if ..] -/
section
variable {K : PySem.W.Frag} {a : Addr} {g : TG} {tt : TT} {te : TE} {vs : List Nat} {σ : L2.St} {H1 : Hp} {D : Addr} {Qd : Hp → Prop}
theorem filter_take {α : Type} {l : List α} {f : α → Bool} {i : Nat} {x : α} (h : l[i]? = some x) : (l.take (i + 1)).filter f = (l.take i).filter f ++ (if f x = true then [x] else []) := by
  rw [take_one h, List.filter_append]
  simp [List.filter_cons]
theorem lc_intsF (ns : List Int) (f : Int → Bool) (hD : H1 D = none) (hl : SqL K H1 a (ns.map V.int)) (few : ns.length ≤ 100000)
    (hs : ∀ (i : Nat) (n : Int) (H : Hp), ns[i]? = some n → Ex H1 H → g (.int n) (wipe σ vs) H fun σ2 H2 => wipe σ2 vs = wipe σ vs ∧ (∀ N : Bool → Hp → Prop, (∀ H', Ex H H' → N (f n) H') → tt σ2 H2 N) ∧ ∀ (H3 : Hp) (N : V → Hp → Prop), N (.int n) H3 → te σ2 H3 N)
    (mg : ∀ x σ H Q Q', (∀ s h, Q s h → Q' s h) → g x σ H Q → g x σ H Q')
    (hd : ∀ H', Ex H1 H' → LsI H' D (ns.filter f) → Qd H') :
    ∃ W : Nat → Nat → Hp → Prop, (∃ m, W 0 m (upd H1 D (.lst []))) ∧ ∀ i m H, W i m H →
      ((Itl K a).stop i H ∧ Qd H) ∨ ((Itl K a).go i H ∧ ∃ Nx : Hp → Prop, (∀ H', Nx H' → ∃ m', m' < m ∧ W (i + 1) m' H') ∧ ∀ x H', (Itl K a).yld i H x H' → g x (wipe σ vs) H' fun σ2 H2 => wipe σ2 vs = wipe σ vs ∧ tt σ2 H2 fun b H3 =>
        if b = true then te σ2 H3 fun y H4 => ∃ acc, H4 D = some (.lst acc) ∧ acc.length < sizeLine ∧ Nx (upd H4 D (.lst (acc ++ [y]))) else Nx H3) := by
  refine lc_list (xs := ns.map V.int) (fun i H => Ex H1 H ∧ LsI H D ((ns.take i).filter f)) ⟨Ex.new hD, upd_same⟩ (fun i H _ c => sql_kp hl fun o z => c.1 _ _ z) (fun i x H hx c => ?_) (fun H c => ?_)
  · rw [List.getElem?_map] at hx
    cases hn : ns[i]? with
    | none => rw [hn] at hx; cases hx
    | some n =>
      rw [hn] at hx
      cases hx
      obtain ⟨e, h⟩ := c
      refine mg _ _ _ _ _ (fun s2 h2 q => ?_) (hs i n H hn e)
      obtain ⟨q1, q2, q3⟩ := q
      refine ⟨q1, q2 _ fun H' e' => ?_⟩
      have e1 := e.trans e'
      have h' : LsI H' D ((ns.take i).filter f) := e' _ _ h
      have st := filter_take (f := f) hn
      by_cases hf : f n = true
      · rw [if_pos hf]
        rw [hf] at st
        refine q3 _ _ ⟨_, h', lt_line ?_, Ex.mut e1 hD, ?_⟩
        · rw [List.length_map]
          have := List.length_filter_le f (ns.take i)
          have : (ns.take i).length ≤ ns.length := by rw [List.length_take]; omega
          omega
        · unfold LsI
          rw [upd_same, st]
          simp
      · rw [if_neg hf]
        have hf' : f n = false := by simpa using hf
        rw [hf'] at st
        exact ⟨e1, by rw [st]; simpa using h'⟩
  · obtain ⟨e, h⟩ := c
    rw [List.length_map, List.take_length] at h
    exact hd H e h
end
/-! lists of lists of ints -/
structure LsLL (H : Hp) (l : Addr) (lss : List (List Int)) (as : List Addr) : Prop where
  at' : H l = some (.lst (as.map V.ref))
  len : as.length = lss.length
  all : ∀ (i : Nat) (a : Addr) (ls : List Int), as[i]? = some a → lss[i]? = some ls → LsI H a ls
theorem LsLL.up {H H' : Hp} {l : Addr} {lss : List (List Int)} {as : List Addr} (h : LsLL H l lss as) (e : Ex H H') : LsLL H' l lss as := ⟨e _ _ h.at', h.len, fun i a ls x y => e _ _ (h.all i a ls x y)⟩
theorem LsLL.get {H : Hp} {l : Addr} {lss : List (List Int)} {as : List Addr} (h : LsLL H l lss as) {i : Nat} {v : V} (e : (as.map V.ref)[i]? = some v) : ∃ a ls, v = .ref a ∧ as[i]? = some a ∧ lss[i]? = some ls ∧ LsI H a ls := by
  rw [List.getElem?_map] at e
  cases ha : as[i]? with
  | none => rw [ha] at e; cases e
  | some a =>
    rw [ha] at e
    cases e
    have hi : i < lss.length := by rw [← h.len]; exact lt_of_get ha
    exact ⟨a, lss[i], rfl, rfl, List.getElem?_eq_getElem hi, h.all i a _ ha (List.getElem?_eq_getElem hi)⟩
theorem LsLL.cat {H : Hp} {l b : Addr} {xs ys : List (List Int)} {as bs : List Addr} (h : LsLL H l xs as) (g : LsLL H b ys bs) {Q : VK} (hb : xs.length + ys.length ≤ 100000) (k : ∀ p H2, H p = none → Ex H H2 → LsLL H2 p (xs ++ ys) (as ++ bs) → Q (.ref p) H2) : jCat (.ref l) (.ref b) H Q := by
  rw [j_cat]
  refine ⟨_, h.at', _, g.at', by simp [h.len, g.len]; omega, fun p H2 n e z => k p H2 n e ⟨by rw [z, List.map_append], by simp [h.len, g.len], fun i a ls x y => ?_⟩⟩
  by_cases hi : i < as.length
  · rw [List.getElem?_append_left hi] at x
    rw [List.getElem?_append_left (by rw [← h.len]; exact hi)] at y
    exact e _ _ (h.all i a ls x y)
  · rw [List.getElem?_append_right (by omega)] at x
    rw [List.getElem?_append_right (by rw [← h.len]; omega), ← h.len] at y
    exact e _ _ (g.all _ a ls x y)
/-! sizes -/
theorem growAll_le (R : Int → Int → Bool) : ∀ (n : Nat) (l : List Int), l.length ≤ n → (growAll R l).length ≤ 2 ^ l.length := by
  intro n
  induction n with
  | zero =>
    intro l h
    have e : l = [] := List.length_eq_zero_iff.mp (by omega)
    subst e
    exact Nat.le_refl 1
  | succ n ih =>
    intro l h
    by_cases e : l = []
    · subst e; exact Nat.le_refl 1
    · obtain ⟨l', p, rfl⟩ : ∃ l' p, l = l' ++ [p] := ⟨l.dropLast, l.getLast e, (List.dropLast_concat_getLast e).symm⟩
      have hl : l'.length ≤ n := by simpa using h
      have := ih l' hl
      rw [growAll_snoc]
      unfold grow1
      rw [List.length_append, List.length_map, List.length_append]
      have := List.length_filter_le (fun o : List Int => o.all fun q => R q p) (growAll R l')
      have : 2 ^ (l'.length + [p].length) = 2 * 2 ^ l'.length := by rw [List.length_singleton, Nat.pow_succ]; omega
      omega
theorem growAll_in (R : Int → Int → Bool) : ∀ (n : Nat) (l : List Int), l.length ≤ n → ∀ o ∈ growAll R l, ∀ x ∈ o, x ∈ l := by
  intro n
  induction n with
  | zero =>
    intro l h
    have e : l = [] := List.length_eq_zero_iff.mp (by omega)
    subst e
    intro o ho x hx
    have : o = [] := by simpa [growAll] using ho
    subst this
    exact hx
  | succ n ih =>
    intro l h
    by_cases e : l = []
    · subst e
      intro o ho x hx
      have : o = [] := by simpa [growAll] using ho
      subst this
      exact hx
    · obtain ⟨l', p, rfl⟩ : ∃ l' p, l = l' ++ [p] := ⟨l.dropLast, l.getLast e, (List.dropLast_concat_getLast e).symm⟩
      have hl : l'.length ≤ n := by simpa using h
      intro o ho x hx
      rw [growAll_snoc] at ho
      unfold grow1 at ho
      rcases List.mem_append.mp ho with ho | ho
      · exact List.mem_append_left _ (ih l' hl o ho x hx)
      · obtain ⟨o', ho', rfl⟩ := List.mem_map.mp ho
        rcases List.mem_append.mp hx with hx | hx
        · exact List.mem_append_left _ (ih l' hl o' (List.mem_filter.mp ho').1 x hx)
        · exact List.mem_append_right _ hx
theorem growAll_lens (R : Int → Int → Bool) : ∀ (n : Nat) (l : List Int), l.length ≤ n → ∀ o ∈ growAll R l, o.length ≤ l.length := by
  intro n
  induction n with
  | zero =>
    intro l h
    have e : l = [] := List.length_eq_zero_iff.mp (by omega)
    subst e
    intro o ho
    have : o = [] := by simpa [growAll] using ho
    subst this
    exact Nat.le_refl 0
  | succ n ih =>
    intro l h
    by_cases e : l = []
    · subst e
      intro o ho
      have : o = [] := by simpa [growAll] using ho
      subst this
      exact Nat.le_refl 0
    · obtain ⟨l', p, rfl⟩ : ∃ l' p, l = l' ++ [p] := ⟨l.dropLast, l.getLast e, (List.dropLast_concat_getLast e).symm⟩
      have hl : l'.length ≤ n := by simpa using h
      intro o ho
      rw [growAll_snoc] at ho
      unfold grow1 at ho
      rw [List.length_append, List.length_singleton]
      rcases List.mem_append.mp ho with ho | ho
      · have := ih l' hl o ho; omega
      · obtain ⟨o', ho', rfl⟩ := List.mem_map.mp ho
        have := ih l' hl o' (List.mem_filter.mp ho').1
        rw [List.length_append, List.length_singleton]
        omega
theorem LsLL.cat' {H : Hp} {l b : Addr} {xs ys : List (List Int)} {as bs : List Addr} {Q : Addr → Hp → Prop} (h : LsLL H l xs as) (g : LsLL H b ys bs) (hb : xs.length + ys.length ≤ 100000) (k : ∀ p H2, H p = none → Ex H H2 → LsLL H2 p (xs ++ ys) (as ++ bs) → Q p H2) :
    ∃ vs, H l = some (.lst vs) ∧ ∃ zs, H b = some (.lst zs) ∧ vs.length + zs.length ≤ 100000 ∧ ∀ (p : Addr) (H2 : Hp), H p = none → Ex H H2 → H2 p = some (.lst (vs ++ zs)) → Q p H2 := by
  have z := h.cat g (Q := fun v H2 => ∃ p, v = .ref p ∧ Q p H2) hb fun p H2 n e c => ⟨p, rfl, k p H2 n e c⟩
  rw [j_cat] at z
  obtain ⟨vs, h1, zs, h2, h3, h4⟩ := z
  exact ⟨vs, h1, zs, h2, h3, fun p H2 n e c => by obtain ⟨p', e', q⟩ := h4 p H2 n e c; cases e'; exact q⟩
/-- of sorted unlike points the earlier is the lesser -/
theorem srt_lt {l : List Int} (nd : l.Nodup) : (srt l).Pairwise (· < ·) := by
  have h1 := srt_le l
  have h2 : (srt l).Nodup := (srt_perm l).nodup_iff.mpr nd
  exact (h1.and h2).imp fun ⟨a, b⟩ => by omega
theorem take_lt {l : List Int} (h : l.Pairwise (· < ·)) {m : Nat} {p : Int} (hp : l[m]? = some p) {x : Int} (hx : x ∈ l.take m) : x < p := by
  have e : l.take (m + 1) = l.take m ++ [p] := take_one hp
  have h2 : (l.take (m + 1)).Pairwise (· < ·) := h.sublist (List.take_sublist _ _)
  rw [e] at h2
  exact (List.pairwise_append.mp h2).2.2 x hx p (by simp)
end Jk

namespace Jk
/-! ## trees as texts, by signs' numbers -/
def dig (n : Int) : List Nat := if 10 ≤ n then [48 + n.toNat / 10, 48 + n.toNat % 10] else [48 + n.toNat]
def sgn (j : Bool) : List Nat := [32, if j = true then 38 else 124, 32]
mutual
def Tr.txt : Tr → List Nat
  | .pt n => dig n
  | .nd j ts => 40 :: (txtL j ts ++ [41])
def txtL (j : Bool) : List Tr → List Nat
  | [] => []
  | t :: ts => t.txt ++ txtR j ts
def txtR (j : Bool) : List Tr → List Nat
  | [] => []
  | t :: ts => sgn j ++ t.txt ++ txtR j ts
end
theorem dig_len (n : Int) : 1 ≤ (dig n).length ∧ (dig n).length ≤ 2 := by unfold dig; split <;> simp
mutual
theorem txt_le : ∀ t : Tr, t.form → t.txt.length + 5 ≤ 7 * t.pts.length
  | .pt n, _ => by rw [Tr.txt, Tr.pts]; have := dig_len n; simp; omega
  | .nd j ts, h => by
    rw [Tr.form] at h
    rw [Tr.txt, Tr.pts, List.length_cons, List.length_append, List.length_singleton]
    match ts, h with
    | t :: us, h =>
      have h1 := txt_le t (formL_iff.mp h.2.2 t (by simp)).1
      have h2 := txtR_le j us fun u hu => (formL_iff.mp h.2.2 u (by simp [hu])).1
      have := h.1
      rw [txtL, ptsL, List.length_append, List.length_append]
      simp at this
      omega
theorem txtR_le (j : Bool) : ∀ ts : List Tr, (∀ t ∈ ts, t.form) → (txtR j ts).length + 2 * ts.length ≤ 7 * (ptsL ts).length
  | [], _ => by rw [txtR, ptsL]; simp
  | t :: ts, h => by
    have h1 := txt_le t (h t (by simp))
    have h2 := txtR_le j ts fun u hu => h u (by simp [hu])
    rw [txtR, ptsL, List.length_append, List.length_append, List.length_append]
    simp [sgn]
    omega
end
theorem txt_pos : ∀ t : Tr, 1 ≤ t.txt.length
  | .pt n => by rw [Tr.txt]; exact (dig_len n).1
  | .nd j ts => by rw [Tr.txt]; simp
theorem txtL_pos {j : Bool} : ∀ {ts : List Tr}, ts ≠ [] → 1 ≤ (txtL j ts).length
  | [], h => absurd rfl h
  | t :: ts, _ => by rw [txtL, List.length_append]; have := txt_pos t; omega
theorem txtR_app (j : Bool) : ∀ (as bs : List Tr), txtR j (as ++ bs) = txtR j as ++ txtR j bs
  | [], bs => by rw [txtR]; rfl
  | a :: as, bs => by rw [List.cons_append, txtR, txtR, txtR_app j as bs]; simp only [List.append_assoc]
theorem txtL_snoc (j : Bool) {ts : List Tr} (h : ts ≠ []) (t : Tr) : txtL j (ts ++ [t]) = txtL j ts ++ (sgn j ++ t.txt) := by
  match ts, h with
  | a :: as, _ => rw [List.cons_append, txtL, txtL, txtR_app, txtR, txtR, List.append_nil, List.append_assoc]
/-- what may stand behind a piece: nothing, a sign or a bracket -/
def restOk : List Nat → Prop
  | [] => True
  | c :: _ => c = 32 ∨ c = 41
theorem dig_first (n : Int) (h : 0 ≤ n ∧ n ≤ 29) : ∃ c r, dig n = c :: r ∧ 48 ≤ c ∧ c ≤ 57 := by
  unfold dig
  split
  · exact ⟨_, _, rfl, by omega, by omega⟩
  · exact ⟨_, _, rfl, by omega, by omega⟩
theorem dig_inj : ∀ a b : Nat, a < 30 → b < 30 → dig a = dig b → a = b := by
  intro a b ha hb h
  unfold dig at h
  split at h <;> split at h
  · simp at h; omega
  · simp at h
  · simp at h
  · simp at h; omega
/-- the figures of a point, read with two signs first -/
theorem dig_two {n : Int} (h : 0 ≤ n ∧ n ≤ 29) {rest : List Nat} (ok : restOk rest) : (10 ≤ n ∧ (dig n ++ rest).take 2 = dig n) ∨ (n < 10 ∧ (dig n ++ rest).take 1 = dig n ∧ ∀ m : Int, 0 ≤ m → m ≤ 29 → (dig n ++ rest).take 2 = dig m → m = n) := by
  by_cases h10 : 10 ≤ n
  · refine .inl ⟨h10, ?_⟩
    unfold dig
    rw [if_pos h10]
    rfl
  · refine .inr ⟨by omega, by unfold dig; rw [if_neg h10]; rfl, fun m m0 m1 e => ?_⟩
    unfold dig at e
    rw [if_neg h10] at e
    match rest, ok with
    | [], _ =>
      split at e
      · simp at e
      · simp at e; omega
    | c :: r, ok =>
      have hc : c = 32 ∨ c = 41 := ok
      split at e
      · simp at e
        omega
      · simp at e
end Jk

namespace Jk
open PySem PySem.Spec PyProof.Rows L2 Evl
section
variable {X : Cx}
/-! xs[::-1] -/
def jRev (K : PySem.W.Frag) (te : TE) (ts : TO) : TE := fun σ H Q => te σ H fun x H1 => ts σ H1 fun o H2 => o = some (-1) ∧ ∃ a xs, x = .ref a ∧ SqL K H2 a xs ∧ ∀ p H3, H2 p = none → Ex H2 H3 → H3 p = some (.lst xs.reverse) → Q (.ref p) H3
@[simp] theorem j_rev {K : PySem.W.Frag} {te : TE} {ts : TO} {σ : L2.St} {H : Hp} {Q : VK} : jRev K te ts σ H Q = te σ H fun x H1 => ts σ H1 fun o H2 => o = some (-1) ∧ ∃ a xs, x = .ref a ∧ SqL K H2 a xs ∧ ∀ p H3, H2 p = none → Ex H2 H3 → H3 p = some (.lst xs.reverse) → Q (.ref p) H3 := rfl
theorem pe_sliceRev {K0 : PySem.W.Frag} {e st : Expr} {te : TE} {ts : TO} {p2 pos : Pos} (he : PE X e te) (hst : PO X (some st) ts) (hK : X.K = K0 := by rfl) : PE X (.Subscript e (.Slice none none (some st) p2) pos) (jRev K0 te ts) := by
  subst hK
  refine ⟨fun pins s σ H Q I h => ?_⟩
  refine Subscript_ (thn (he.run pins s σ H _ I h) fun v s1 ⟨x, H1, I1, r1, q1⟩ => ?_)
  refine wpAny_Slice (thn ((po_none (X := X)).run pins s1 σ H1 (fun o H2 => o = none ∧ H2 = H1) I1 ⟨rfl, rfl⟩) fun vl s2 ⟨l, H2, I2, pl, el, eh⟩ => thn ((po_none (X := X)).run pins s2 σ H2 (fun o H3 => o = none ∧ H3 = H2) I2 ⟨rfl, rfl⟩) fun vu s3 ⟨u, H3, I3, pu, eu, eh2⟩ => ?_)
  subst el eu eh eh2
  refine thn (hst.run pins s3 σ H3 _ I3 q1) fun vk s4 ⟨k, H4, I4, pk, q4⟩ => ?_
  obtain ⟨ek, a, xs, ex, hx, q⟩ := q4
  subst ek ex
  obtain rfl : v = Value.ref a := r1
  have I5 : L2.Inv X pins σ H4 { s4 with heap := s4.heap.push { cls := .type "slice", data := .fields #[vl, vu, vk] } } := I4.kept (t' := s4.toks) fun b ob q => Heap.get?_push_of_some _ q
  obtain ⟨its, r, ht, hz⟩ := I5.list hx
  have hlen := r.length
  show wpAny (model X.prog X.w) X.A (subscriptTail e (.Slice none none (some st) p2) (.ref a) (.ref s4.heap.objs.size)) (EP X pins σ Q) X.xe { s4 with heap := s4.heap.push { cls := .type "slice", data := .fields #[vl, vu, vk] } }
  refine tail_any (ops := [.ref a, .ref s4.heap.objs.size]) ht.isList.typeIs slot_list_getitem.lookup ?_ (by with_unfolding_all rfl)
  refine wpAny_getItem_list_slice ht.isList (Heap.IsSliceOf.new ..) pl pu pk (by simp) ?_ (by rw [List.size_toArray] <;> omega)
  rw [PySem.W.krv_pick, List.toList_toArray]
  have hn := I5.hok.fresh (Nat.le_refl _)
  refine ⟨.ref (s4.heap.push { cls := .type "slice", data := .fields #[vl, vu, vk] }).objs.size, _, I5.laid (t' := s4.toks) (o := .lst xs.reverse) (fun b ob q => Heap.get?_push_of_some _ q) (Nat.le_refl _) ?_, rfl, q _ _ hn (Ex.new hn) upd_same⟩
  exact ⟨by rw [List.length_reverse]; exact hz, _, 0, Vals.reverse r, Heap.get?_push_size _ rfl⟩
end
/-! ## texts by their signs' numbers -/
def mkS (l : List Nat) : Str := ⟨l.toArray⟩
theorem mkS_inj {a b : List Nat} : mkS a = mkS b ↔ a = b := ⟨fun h => by
  have := congrArg (fun z : Str => z.cps.toList) h
  simpa [mkS] using this, fun h => by rw [h]⟩
theorem mkS_len (l : List Nat) : (mkS l).length = l.length := by simp [mkS, Str.length]
theorem mkS_app (a b : List Nat) : mkS a ++ mkS b = mkS (a ++ b) := by
  show Str.append _ _ = _
  unfold Str.append mkS
  simp
theorem s_open : Str.ofString "(" = mkS [40] := by decide +kernel
theorem s_close : Str.ofString ")" = mkS [41] := by decide +kernel
theorem s_side : Str.ofString " | " = mkS (sgn false) := by decide +kernel
theorem s_join : Str.ofString " & " = mkS (sgn true) := by decide +kernel
theorem s_none : Str.ofString "" = mkS [] := by decide +kernel
theorem s_digN : ∀ n : Nat, n < 30 → (Str.ofString (toString (n : Int))) = mkS (dig n) := by decide +kernel
theorem s_dig {n : Int} (h : 0 ≤ n ∧ n ≤ 29) : (Str.ofString (toString n)) = mkS (dig n) := by
  have := s_digN n.toNat (by omega)
  rwa [show ((n.toNat : Nat) : Int) = n by omega] at this
theorem cut_mk (l : List Nat) {a b : Nat} (h : a ≤ b) : cutS (mkS l) (some (a : Int)) (some (b : Int)) = mkS ((l.drop a).take (b - a)) := by
  unfold cutS
  rw [mkS_len, HT.sIx_nat, HT.sIx_nat]
  show (⟨_⟩ : Str) = ⟨_⟩
  congr 2
  show (l.drop (min a l.length)).take (min b l.length - min a l.length) = _
  by_cases ha : a ≤ l.length
  · rw [Nat.min_eq_left ha]
    by_cases hb : b ≤ l.length
    · rw [Nat.min_eq_left hb]
    · rw [Nat.min_eq_right (by omega), List.take_of_length_le (by rw [List.length_drop]; omega), List.take_of_length_le (by rw [List.length_drop]; omega)]
  · rw [List.drop_of_length_le (by omega), List.drop_of_length_le (by omega)]
    simp
section
variable {X : Cx}
/-- text[a:b] -/
def jSlT : V → Option Int → Option Int → Hp → VK → Prop := fun x lo hi H Q => ∃ (l : List Nat) (a b : Nat), x = .str (mkS l) ∧ lo = some (a : Int) ∧ hi = some (b : Int) ∧ a ≤ b ∧ l.length ≤ 100000 ∧ Q (.str (mkS ((l.drop a).take (b - a)))) H
theorem sl_txt : SlR X jSlT := fun pins s σ H x v vl vu lo hi sl Q I rx hs pl pu ⟨l, a, b, e1, e2, e3, h, hz, q⟩ => sl_str pins s σ H x v vl vu lo hi sl Q I rx hs pl pu ⟨mkS l, e1, by rw [mkS_len]; exact Nat.le_of_lt (lt_line hz), by
  subst e2 e3
  rw [cut_mk l h]
  exact q⟩
/-- text * 0 or 1 -/
def jMulS : R2 := fun x y H Q => ∃ (l : List Nat) (b : Bool), x = .str (mkS l) ∧ y = .int (if b = true then 1 else 0) ∧ l.length ≤ 100000 ∧ Q (.str (mkS (if b = true then l else []))) H
theorem op_mulS : OpR X (binaryOp .Mult) jMulS := by
  intro pins s σ H x y v u Q I rx ry h
  obtain ⟨l, b, rfl, rfl, hz, q⟩ := h
  obtain ⟨t, rfl⟩ := rx
  obtain ⟨t2, rfl⟩ := ry
  cases b with
  | false =>
    refine PySem.P.mul_str_none (by decide) (by decide) ⟨.str (mkS []), H, I.kept (t' := s.toks + 1) (fun _ _ z => z), ⟨_, rfl⟩, q⟩
  | true =>
    refine PySem.P.mul_str (by decide) (fun _ h => by simp at h) (fun _ h => by simp at h) ?_
    simp
    exact ⟨.str (mkS l), H, I, ⟨_, rfl⟩, q⟩
end
end Jk

namespace Jk
open PySem PySem.Spec PyProof.Rows L2 Evl
section
variable {X : Cx}
theorem sw_trueD {kx vx : Expr} {gs : List Comprehension} {scope : Scope} {pos py : Pos} {y : Str} {l : Nat} {env : Env} (hk : env.scope.kind = .function) (hy : env.scope.names.lookup y = some .local) (hl : (py.line == pos.line) = true)
    (ha : (scope.names.any fun (n, k) => n == y && (k == .local || k == .cell)) = false) : swapsWith (.DictComp kx vx gs scope pos) (some (.Name y py)) l env = pure true := by
  have ky : env.kindOf y = some .local := hy
  have hb : env.blockKind = .function := by unfold Env.blockKind; rw [hk]; rfl
  unfold swapsWith
  simp only [hb, ky, ha, Expr.pos, hl]
  rfl
theorem ps_setDc {i : Nat} {y : Str} {py : Pos} {kx vx tg iter : Expr} {ifs : List Expr} {scope : Scope} {own : List (Str × Nat)} {pos spos : Pos} {wi : TI} {g : TG} {tt : TT} {tk tv : TE} (hc : X.calm = true) (hN : X.N.Nodup) (hy : X.N[i]? = some y) (hyl : X.env.scope.names.lookup y = some .local)
    (hsw : swapsWith (.DictComp kx vx [⟨tg, iter, ifs, 0⟩] scope pos) (some (.Name y py)) spos.line X.env = pure true) (hi : PI X tg iter wi) (ok : BlkOk X.N X.env.scope scope own)
    (hg : ∀ (s : Shared) (H : Hp) (C : Addr) (cl : List (Str × Addr)) (fp : List Addr), PG (X.blk s H scope (compEnvC scope cl C X.env) fp) tg g) (ht : ∀ (s : Shared) (H : Hp) (C : Addr) (cl : List (Str × Addr)) (fp : List Addr), PTs (X.blk s H scope (compEnvC scope cl C X.env) fp) ifs tt)
    (hk : ∀ (s : Shared) (H : Hp) (C : Addr) (cl : List (Str × Addr)) (fp : List Addr), PE (X.blk s H scope (compEnvC scope cl C X.env) fp) kx tk)
    (he : ∀ (s : Shared) (H : Hp) (C : Addr) (cl : List (Str × Addr)) (fp : List Addr), PE (X.blk s H scope (compEnvC scope cl C X.env) fp) vx tv) (hs : ∀ x, foldedSetIterable iter X.env x = pure x := by intro _; rfl) :
    PS X (.Assign [.Name y py] (.DictComp kx vx [⟨tg, iter, ifs, 0⟩] scope pos) spos) (tAsg (tDc wi g tt tk tv (own.map (·.2))) (gName i)) := by
  refine ⟨fun pins s σ H D I h => ?_⟩
  rw [exec_Assign_Name_used _ _ _ _ hsw]
  refine wpAny_bind (wpAny_standAt (wpAny_bind ?_))
  have h : tDc wi g tt tk tv (own.map (·.2)) σ H (fun x H1 => gName i x σ H1 D.nx) := h
  refine wpAny_bind (thn (dc_core (Qf := fun _ s' => SP X pins D .next s') hc hN I hi ok hg ht hk he hs h fun L C s' m H' I' q hn f => ?_) fun _ s' hq => wpAny_pure (wpAny_pure hq))
  show wpAny _ _ (assign (.Name y py) X.env (.ref L)) _ _ _
  refine wpAny_assign_Name (store_ok2 (v := V.ref L) I' hN hy (.inl hyl) rfl (fun s2 I2 ⟨a, sb, ha⟩ => ?_) (.inr hyl))
  obtain ⟨f0, f1, f2, f3, f4, f5⟩ := f
  have haC : C ≠ a := by
    rcases ha with z | z
    · rw [z]; exact f1
    · exact fun e => f4 y a z e.symm
  refine ⟨m, hn.sameBut sb haC, fun h3 sb3 => ?_⟩
  exact ⟨_, H', I2.turned (t' := s2.toks) (fun b o hb e => (sb3.2 b hb).trans e) f0 f1 f3 f4 f5, q⟩
end
end Jk

namespace Jk
open PySem PySem.Spec PyProof.Rows L2 Evl
theorem moved_eq {wr : List Addr} {s s' : Shared} (m : Moved wr (fun a b => b = a) s s') : s' = { s with heap := s'.heap, toks := s'.toks } := by
  obtain ⟨_, g, d, o, _⟩ := m
  cases s'
  cases s
  simp at g d o ⊢
  exact ⟨g, d, o⟩
theorem max_len {prog : Program} {w : World} {A : Around} {s : Shared} {E : Value → Shared → Prop} {Q : Value → Shared → Prop} {l : Addr} {its : Array Value} {ln : Nat → Int} (hh : A.handled = none) (hl : s.heap.IsList l its) (h0 : 0 < its.size)
    (hk : ∀ i v, its[i]? = some v → ∃ a ys, v = .ref a ∧ s.heap.IsList a ys ∧ (ys.size : Int) = ln i ∧ (ys.size : Int) < 2 ^ 63)
    (h : ∀ v h' tk, its[argBest (fun i j => decide (ln i > ln j)) (its.size - 1)]? = some v → (∀ d o, s.heap.get? d = some o → h'.get? d = some o) → Q v { s with heap := h', toks := tk }) :
    wpAny (model prog w) A (call (.builtin "max") [.ref l] [(Str.ofString "key", .builtin "len")]) Q E s := by
  refine call_max_walkKB (iter_anyList hl fun s₂ e st hfp hlI => ?_)
  subst e
  refine ⟨_, _, _, _, _, _, _, fun s' => ∃ h' tk, s' = { s with heap := h', toks := tk } ∧ ∀ d o, s.heap.get? d = some o → h'.get? d = some o, fun i k _ => ∃ t, k = .int (ln i) t, fun i j => decide (ln i > ln j), rfl, (Walks.list (A := A.in1) hh _ l hlI its).toS, st, hfp, h0, ⟨?_, ?_, ?_, ?_⟩, ?_, fun v s' hP hJ => ?_⟩
  · rintro s1 s2 ⟨h1, t1, rfl, k⟩ m
    refine ⟨s2.heap, s2.toks, (moved_eq m :), fun d o e => m.heap d o (fun z => ?_) (k d o e)⟩
    have lt := Heap.lt_size e
    rcases List.mem_cons.mp z with rfl | z
    · rw [Heap.size_push] at lt
      exact Nat.lt_irrefl _ (Nat.lt_of_succ_lt lt)
    · rcases List.mem_cons.mp z with rfl | z
      · exact Nat.lt_irrefl _ lt
      · cases z
  · exact fun i k s1 s2 v _ => v
  · rintro i v s1 o Q1 E1 hi hP ⟨h1, t1, rfl, k⟩ hSt hS q
    obtain ⟨a, ys, rfl, hla, e1, e2⟩ := hk i v hP
    have hla' : h1.IsList a ys := hla.at fun o e => k _ o e
    refine PySem.Calls.call_len_list (s := { s with heap := h1, toks := t1 }) hla' e2 ?_
    exact q _ _ ⟨h1, _, rfl, k⟩ hSt hS ⟨_, by rw [e1]⟩ fun _ _ x => x
  · rintro i j ki kj s1 Q1 E1 _ ⟨t, rfl⟩ ⟨u, rfl⟩ q
    exact richCompare_gives (op := .Gt) (typeIs_int s1 _ t) (typeIs_int s1 _ u) F.slot_int_gt F.entry_int_gt (F.args_int_gt_2 _ _) (gives_int_gt _ _ t u) (fun x => nomatch x) q
  · exact ⟨_, _, rfl, fun d o e => Heap.get?_push_of_some _ e⟩
  · obtain ⟨h1, t1, rfl, k⟩ := hJ
    exact h v h1 t1 hP k
def bestIx (ln : Nat → Nat) (n : Nat) : Nat := argBest (fun i j => decide ((ln i : Int) > (ln j : Int))) (n - 1)
def jMaxLen (K : PySem.W.Frag) (ta : TE) : TE := fun σ H Q => ta σ H fun x H1 => ∃ (a : Addr) (xs : List V) (ln : Nat → Nat), x = .ref a ∧ SqL K H1 a xs ∧ 0 < xs.length ∧ (∀ i v, xs[i]? = some v → ∃ b ys, v = .ref b ∧ SqL K H1 b ys ∧ ys.length = ln i) ∧ ∀ v, xs[bestIx ln xs.length]? = some v → Q v H1
@[simp] theorem j_maxLen {K : PySem.W.Frag} {ta : TE} {σ : L2.St} {H : Hp} {Q : VK} : jMaxLen K ta σ H Q = ta σ H fun x H1 => ∃ (a : Addr) (xs : List V) (ln : Nat → Nat), x = .ref a ∧ SqL K H1 a xs ∧ 0 < xs.length ∧ (∀ i v, xs[i]? = some v → ∃ b ys, v = .ref b ∧ SqL K H1 b ys ∧ ys.length = ln i) ∧ ∀ v, xs[bestIx ln xs.length]? = some v → Q v H1 := rfl
theorem pe_maxLen {X : Cx} {K0 : PySem.W.Frag} {a : Expr} {ta : TE} {p p2 kp pos : Pos} (hc : X.calm = true) (g1 : Gl X "max") (m1 : X.mg "max" = none) (g2 : Gl X "len") (m2 : X.mg "len" = none) (ha : PE X a ta) (hK : X.K = K0 := by rfl)
    (hs0 : starEach [a] X.env = (false, eval a X.env) :: starEach [] X.env := by rfl) (he : backTo pos (starEach [a] X.env) = (false, eval a X.env) :: backTo pos (starEach [] X.env) := by rfl) (hpl : (backTo pos (starEach [a] X.env)).any (·.1) = false := by rfl) :
    PE X (.Call (.Name "max" p) [a] [⟨some "key", .Name "len" p2, kp⟩] pos) (jMaxLen K0 ta) := by
  subst hK
  refine ⟨fun pins s σ H Q I h => ?_⟩
  refine wpAny_Call_Name_kw (ld_blt I g1 m1 (u := .builtin "max") rfl ?_)
  have h' : tCons ta tNil σ H (fun vs H1 => match vs with | [x] => ∃ (a : Addr) (xs : List V) (ln : Nat → Nat), x = .ref a ∧ SqL X.K H1 a xs ∧ 0 < xs.length ∧ (∀ i v, xs[i]? = some v → ∃ b ys, v = .ref b ∧ SqL X.K H1 b ys ∧ ys.length = ln i) ∧ ∀ v, xs[bestIx ln xs.length]? = some v → Q v H1 | _ => False) := h
  refine PyProof.Rows.callWith_kw (thn ((pa_cons ha pa_nil hs0).run pos pins s σ H _ I h') fun us s1 ⟨vs, H1, I1, r1, q1⟩ => ?_) he hpl rfl rfl
  show wpAny _ _ (evalAll ((do let v ← eval (.Name "len" p2) X.env; standAt pos; pure v) :: (backToKw pos (keywordEach [] X.env)).map (·.2))) _ _ s1
  refine wpAny_evalAll_cons (wpAny_bind (ld_blt I1 g2 m2 (u := .builtin "len") rfl (wpAny_bind (wpAny_standAt (wpAny_pure (wpAny_evalAll_nil ?_))))))
  match vs, r1, q1 with
  | [x], r1, q1 =>
    obtain ⟨l, xs, ln, rfl, hs, h0, hk, q⟩ := q1
    rw [Vals.ref1 r1]
    obtain ⟨its, rv, hl, hz⟩ := I1.list hs
    have en : xs.length = its.length := rv.length
    show wpAny _ _ (call (.builtin "max") [.ref l] [(Str.ofString "key", .builtin "len")]) _ _ _
    have back : ∀ (i : Nat) (v : Value), its.toArray[i]? = some v → ∃ x, xs[i]? = some x ∧ RelV x v := fun i v hv => by
      have hi : its[i]? = some v := by simpa using hv
      have hlt : i < xs.length := by
        rw [en]
        exact (List.getElem?_eq_some_iff.mp hi).1
      obtain ⟨u, hu, ru⟩ := Vals.get rv (List.getElem?_eq_getElem hlt)
      rw [hi] at hu
      cases hu
      exact ⟨_, List.getElem?_eq_getElem hlt, ru⟩
    refine max_len (ln := fun i => (ln i : Int)) (I1.ok.hd hc) hl.isList (by simp; omega) (fun i v hv => ?_) fun v h2 tk hv k => ?_
    · obtain ⟨x, hx, rx⟩ := back i v hv
      obtain ⟨b, ys, rfl, hy, e⟩ := hk i x hx
      obtain ⟨its2, rv2, hl2, hz2⟩ := I1.list hy
      have e2 : ys.length = its2.length := rv2.length
      have h63 := line63
      refine ⟨b, its2.toArray, rx, hl2.isList, by simp; omega, ?_⟩
      simp
      omega
    · obtain ⟨x, hx, rx⟩ := back _ v hv
      refine ⟨x, H1, I1.kept k, rx, q x ?_⟩
      unfold bestIx
      rw [en]
      simpa using hx
end Jk

namespace Jk
/-! ## how large the greatest ones are, and how many the fewest are -/
mutual
def gN (j : Bool) : Tr → Nat
  | .pt _ => 1
  | .nd i ts => if i = j then addG j ts else topG j ts
def addG (j : Bool) : List Tr → Nat
  | [] => 0
  | t :: ts => gN j t + addG j ts
def topG (j : Bool) : List Tr → Nat
  | [] => 0
  | t :: ts => max (gN j t) (topG j ts)
end
theorem addG_perm {j : Bool} {l m : List Tr} (p : l.Perm m) : addG j l = addG j m := by
  induction p with
  | nil => rfl
  | cons a _ ih => rw [addG, addG, ih]
  | swap a b l => rw [addG, addG, addG, addG]; omega
  | trans _ _ h1 h2 => rw [h1, h2]
theorem topG_perm {j : Bool} {l m : List Tr} (p : l.Perm m) : topG j l = topG j m := by
  induction p with
  | nil => rfl
  | cons a _ ih => rw [topG, topG, ih]
  | swap a b l => rw [topG, topG, topG, topG]; omega
  | trans _ _ h1 h2 => rw [h1, h2]
theorem prodN_perm {j : Bool} {l m : List Tr} (p : l.Perm m) : prodN j l = prodN j m := by
  induction p with
  | nil => rfl
  | cons a _ ih => rw [prodN, prodN, ih]
  | swap a b l => rw [prodN, prodN, prodN, prodN, Nat.mul_left_comm]
  | trans _ _ h1 h2 => rw [h1, h2]
theorem sumN_perm {j : Bool} {l m : List Tr} (p : l.Perm m) : sumN j l = sumN j m := by
  induction p with
  | nil => rfl
  | cons a _ ih => rw [sumN, sumN, ih]
  | swap a b l => rw [sumN, sumN, sumN, sumN]; omega
  | trans _ _ h1 h2 => rw [h1, h2]
theorem addG_app (j : Bool) : ∀ as bs : List Tr, addG j (as ++ bs) = addG j as + addG j bs
  | [], bs => by rw [addG]; simp
  | a :: as, bs => by rw [List.cons_append, addG, addG, addG_app j as bs]; omega
theorem topG_app (j : Bool) : ∀ as bs : List Tr, topG j (as ++ bs) = max (topG j as) (topG j bs)
  | [], bs => by rw [topG]; simp
  | a :: as, bs => by rw [List.cons_append, topG, topG, topG_app j as bs]; omega
theorem prodN_app (j : Bool) : ∀ as bs : List Tr, prodN j (as ++ bs) = prodN j as * prodN j bs
  | [], bs => by rw [prodN]; simp
  | a :: as, bs => by rw [List.cons_append, prodN, prodN, prodN_app j as bs, Nat.mul_assoc]
theorem sumN_app (j : Bool) : ∀ as bs : List Tr, sumN j (as ++ bs) = sumN j as + sumN j bs - 1
  | [], bs => by rw [sumN]; simp
  | a :: as, bs => by
    have := sumN_pos j as
    have := sumN_pos j bs
    rw [List.cons_append, sumN, sumN, sumN_app j as bs]; omega
theorem addG_brings (j : Bool) (t : Tr) : addG j (brings j t) = gN j t := by
  cases t with
  | pt n => simp [brings, addG]
  | nd i ts =>
    rw [brings_nd, gN]
    split
    · rfl
    · rename_i h
      simp [addG, gN, h]
theorem topG_brings {i j : Bool} (h : j ≠ i) (t : Tr) : topG i (brings j t) = gN i t := by
  cases t with
  | pt n => simp [brings, topG]
  | nd k ts =>
    rw [brings_nd]
    by_cases e : k = j
    · subst e
      rw [if_pos rfl, gN, if_neg h]
    · rw [if_neg e]
      simp [topG]
theorem prodN_brings (j : Bool) (t : Tr) : prodN j (brings j t) = manyN j t := by
  cases t with
  | pt n => simp [brings, prodN]
  | nd i ts =>
    rw [brings_nd, manyN]
    split
    · rfl
    · rename_i h
      simp [prodN, manyN, h]
theorem sumN_brings {i j : Bool} (h : j ≠ i) (t : Tr) : sumN i (brings j t) = manyN i t := by
  cases t with
  | pt n => simp [brings, sumN, manyN]
  | nd k ts =>
    rw [brings_nd]
    by_cases e : k = j
    · subst e
      rw [if_pos rfl, manyN, if_neg h]
    · rw [if_neg e]
      have := manyN_pos i (.nd k ts)
      simp only [sumN]
      omega
theorem gN_lay (i j : Bool) (a b : Tr) : gN i (lay j a b) = if j = i then gN i a + gN i b else max (gN i a) (gN i b) := by
  unfold lay
  rw [gN]
  split
  · rename_i h
    subst h
    rw [addG_perm (srtT_perm _), addG_app, addG_brings, addG_brings]
  · rename_i h
    rw [topG_perm (srtT_perm _), topG_app, topG_brings h, topG_brings h]
theorem manyN_lay (i j : Bool) (a b : Tr) : manyN i (lay j a b) = if j = i then manyN i a * manyN i b else manyN i a + manyN i b - 1 := by
  unfold lay
  rw [manyN]
  split
  · rename_i h
    subst h
    rw [prodN_perm (srtT_perm _), prodN_app, prodN_brings, prodN_brings]
  · rename_i h
    rw [sumN_perm (srtT_perm _), sumN_app, sumN_brings h, sumN_brings h]
theorem not_iff_ne {i j : Bool} : ((!i) = j) ↔ (i = !j) := by cases i <;> cases j <;> simp
mutual
theorem gN_turn (j : Bool) : ∀ t : Tr, gN j t.turn = gN (!j) t
  | .pt n => by rw [Tr.turn, gN, gN]
  | .nd i ts => by
    rw [Tr.turn, gN, gN, addG_turn j ts, topG_turn j ts]
    simp only [not_iff_ne]
theorem addG_turn (j : Bool) : ∀ ts : List Tr, addG j (turnL ts) = addG (!j) ts
  | [] => by rw [turnL, addG, addG]
  | t :: ts => by rw [turnL, addG, addG, gN_turn j t, addG_turn j ts]
theorem topG_turn (j : Bool) : ∀ ts : List Tr, topG j (turnL ts) = topG (!j) ts
  | [] => by rw [turnL, topG, topG]
  | t :: ts => by rw [turnL, topG, topG, gN_turn j t, topG_turn j ts]
end
mutual
theorem manyN_turn (j : Bool) : ∀ t : Tr, manyN j t.turn = manyN (!j) t
  | .pt n => by rw [Tr.turn, manyN, manyN]
  | .nd i ts => by
    rw [Tr.turn, manyN, manyN, prodN_turn j ts, sumN_turn j ts]
    simp only [not_iff_ne]
theorem prodN_turn (j : Bool) : ∀ ts : List Tr, prodN j (turnL ts) = prodN (!j) ts
  | [] => by rw [turnL, prodN, prodN]
  | t :: ts => by rw [turnL, prodN, prodN, manyN_turn j t, prodN_turn j ts]
theorem sumN_turn (j : Bool) : ∀ ts : List Tr, sumN j (turnL ts) = sumN (!j) ts
  | [] => by rw [turnL, sumN, sumN]
  | t :: ts => by rw [turnL, sumN, sumN, manyN_turn j t, sumN_turn j ts]
end
mutual
theorem gN_le (j : Bool) : ∀ t : Tr, gN j t ≤ t.pts.length
  | .pt n => by rw [gN, Tr.pts]; simp
  | .nd i ts => by
    rw [gN, Tr.pts]
    have := addG_le j ts
    have := topG_le j ts
    split <;> omega
theorem addG_le (j : Bool) : ∀ ts : List Tr, addG j ts ≤ (ptsL ts).length
  | [] => by rw [addG]; omega
  | t :: ts => by rw [addG, ptsL, List.length_append]; have := gN_le j t; have := addG_le j ts; omega
theorem topG_le (j : Bool) : ∀ ts : List Tr, topG j ts ≤ (ptsL ts).length
  | [] => by rw [topG]; omega
  | t :: ts => by rw [topG, ptsL, List.length_append]; have := gN_le j t; have := topG_le j ts; omega
end
/-- the greatest of some: the one that is nowhere less -/
theorem topG_at (j : Bool) : ∀ (ts : List Tr) (i : Nat) (t : Tr), ts[i]? = some t → (∀ (k : Nat) (u : Tr), ts[k]? = some u → gN j u ≤ gN j t) → topG j ts = gN j t
  | [], i, t, h, _ => by simp at h
  | u :: us, i, t, h, hb => by
    have h0 := hb 0 u rfl
    rw [topG]
    match i, h with
    | 0, h =>
      cases h
      have : ∀ (vs : List Tr), (∀ (k : Nat) (v : Tr), vs[k]? = some v → gN j v ≤ gN j u) → topG j vs ≤ gN j u := by
        intro vs
        induction vs with
        | nil => intro _; rw [topG]; omega
        | cons v vs ih =>
          intro hv
          have a := hv 0 v rfl
          have b := ih fun k x hx => hv (k + 1) x hx
          rw [topG]
          omega
      have := this us fun k v hv => hb (k + 1) v hv
      omega
    | i + 1, h =>
      rw [topG_at j us i t h fun k v hv => hb (k + 1) v hv]
      omega
end Jk

namespace Jk
/-! ## the very greatest ones and the very fewest, as they are found -/
theorem bestIx_lt {ln : Nat → Nat} {n : Nat} (h : 0 < n) : bestIx ln n < n ∧ ∀ j, j < n → ln j ≤ ln (bestIx ln n) := by
  have b := PySem.argBest_gt (fun i => (ln i : Int)) (n - 1)
  refine ⟨?_, fun j hj => ?_⟩
  · have := b.1
    unfold bestIx
    omega
  · have := b.2 j (by omega)
    unfold bestIx
    omega
def lnOf (ls : List (List Int)) (i : Nat) : Nat := (ls.getD i []).length
def pickL (ls : List (List Int)) : List Int := ls.getD (bestIx (lnOf ls) ls.length) []
theorem pickL_at {ls : List (List Int)} (h : 0 < ls.length) : ls[bestIx (lnOf ls) ls.length]? = some (pickL ls) := by
  have b := (bestIx_lt (ln := lnOf ls) h).1
  rw [pickL, List.getD_eq_getElem?_getD, List.getElem?_eq_getElem b]
  rfl
theorem pickL_top {ls : List (List Int)} {l : List Int} (h : l ∈ ls) : l.length ≤ (pickL ls).length := by
  obtain ⟨i, hi, e⟩ := List.mem_iff_getElem.mp h
  have b := (bestIx_lt (ln := lnOf ls) (n := ls.length) (by omega)).2 i hi
  have e1 : lnOf ls i = l.length := by rw [lnOf, List.getD_eq_getElem?_getD, List.getElem?_eq_getElem hi, e]; rfl
  rw [e1] at b
  exact b
mutual
def greatT (j : Bool) : Tr → List Int
  | .pt n => [n]
  | .nd i ts => if i = j then (greatL j ts).flatten else pickL (greatL j ts)
def greatL (j : Bool) : List Tr → List (List Int)
  | [] => []
  | t :: ts => greatT j t :: greatL j ts
end
theorem greatL_map (j : Bool) (ts : List Tr) : greatL j ts = ts.map (greatT j) := by
  induction ts with
  | nil => rw [greatL]; rfl
  | cons t ts ih => rw [greatL, ih]; rfl
theorem greatL_len (j : Bool) (ts : List Tr) : (greatL j ts).length = ts.length := by rw [greatL_map, List.length_map]
theorem pickL_sub {j : Bool} {ts : List Tr} (h : ts ≠ []) : ∃ t ∈ ts, pickL (greatL j ts) = greatT j t := by
  have p : 0 < (greatL j ts).length := by rw [greatL_len]; exact List.length_pos_iff.mpr h
  have := List.mem_of_getElem? (pickL_at p)
  rw [greatL_map] at this ⊢
  obtain ⟨t, h1, h2⟩ := List.mem_map.mp this
  exact ⟨t, h1, h2.symm⟩
mutual
theorem great_sub (j : Bool) : ∀ t : Tr, (greatT j t).Sublist t.pts
  | .pt n => by rw [greatT, Tr.pts]; exact List.Sublist.refl _
  | .nd i ts => by
    rw [greatT, Tr.pts]
    obtain ⟨h1, h2⟩ := greatL_sub j ts
    split
    · exact h1
    · by_cases e : ts = []
      · subst e
        rw [greatL]
        exact List.nil_sublist _
      · obtain ⟨t, ht, e⟩ := pickL_sub (j := j) e
        rw [e]
        exact h2 t ht
theorem greatL_sub (j : Bool) : ∀ ts : List Tr, (greatL j ts).flatten.Sublist (ptsL ts) ∧ ∀ t ∈ ts, (greatT j t).Sublist (ptsL ts)
  | [] => by simp [greatL]
  | t :: ts => by
    obtain ⟨h1, h2⟩ := greatL_sub j ts
    have h0 := great_sub j t
    rw [greatL, ptsL, List.flatten_cons]
    refine ⟨h0.append h1, fun u hu => ?_⟩
    rcases List.mem_cons.mp hu with rfl | hu
    · exact h0.trans (List.sublist_append_left _ _)
    · exact (h2 u hu).trans (List.sublist_append_right _ _)
end
theorem great_in {j : Bool} {t : Tr} {n : Int} (h : n ∈ greatT j t) : n ∈ t.pts := (great_sub j t).subset h
theorem great_nd {j : Bool} {t : Tr} (h : t.pts.Nodup) : (greatT j t).Nodup := h.sublist (great_sub j t)
mutual
theorem great_len (j : Bool) : ∀ t : Tr, (greatT j t).length = gN j t
  | .pt n => by rw [greatT, gN]; rfl
  | .nd i ts => by
    rw [greatT, gN]
    obtain ⟨h1, h2⟩ := greatL_lens j ts
    split
    · exact h1
    · by_cases e : ts = []
      · subst e
        rw [greatL, topG]
        rfl
      · have p : 0 < (greatL j ts).length := by rw [greatL_len]; exact List.length_pos_iff.mpr e
        have a := pickL_at p
        rw [greatL_map, List.getElem?_map] at a
        cases b : ts[bestIx (lnOf (greatL j ts)) (greatL j ts).length]? with
        | none => rw [greatL_map] at b; rw [b] at a; cases a
        | some t =>
          have b' := b
          rw [greatL_map] at b'
          rw [b'] at a
          simp only [Option.map_some, Option.some.injEq] at a
          rw [← greatL_map] at a
          rw [← a, h2 t (List.mem_of_getElem? b)]
          refine (topG_at j ts _ t b fun k u hu => ?_).symm
          have := pickL_top (ls := greatL j ts) (l := greatT j u) (by rw [greatL_map]; exact List.mem_map.mpr ⟨u, List.mem_of_getElem? hu, rfl⟩)
          rw [← a, h2 t (List.mem_of_getElem? b), h2 u (List.mem_of_getElem? hu)] at this
          exact this
theorem greatL_lens (j : Bool) : ∀ ts : List Tr, (greatL j ts).flatten.length = addG j ts ∧ ∀ t ∈ ts, (greatT j t).length = gN j t
  | [] => by simp [greatL, addG]
  | t :: ts => by
    obtain ⟨h1, h2⟩ := greatL_lens j ts
    have h0 := great_len j t
    rw [greatL, addG, List.flatten_cons, List.length_append, h1, h0]
    refine ⟨rfl, fun u hu => ?_⟩
    rcases List.mem_cons.mp hu with rfl | hu
    · exact h0
    · exact h2 u hu
end
/-- any two of them are tied, or no two -/
def Uni (j : Bool) (t : Tr) (l : List Int) : Prop := ∀ a ∈ l, ∀ b ∈ l, a ≠ b → t.tie a b = j
theorem nd_disj {ts : List Tr} (nd : (ptsL ts).Nodup) {i k : Nat} {t u : Tr} {a : Int} (h1 : ts[i]? = some t) (h2 : ts[k]? = some u) (a1 : a ∈ t.pts) (a2 : a ∈ u.pts) : i = k := by
  induction ts generalizing i k with
  | nil => simp at h1
  | cons v vs ih =>
    rw [ptsL] at nd
    obtain ⟨_, n2, n3⟩ := List.nodup_append.mp nd
    cases i with
    | zero =>
      cases k with
      | zero => rfl
      | succ k =>
        simp at h1 h2
        subst h1
        exact absurd rfl (n3 a a1 a (mem_ptsL.mpr ⟨u, List.mem_of_getElem? h2, a2⟩))
    | succ i =>
      cases k with
      | zero =>
        simp at h1 h2
        subst h2
        exact absurd rfl (n3 a a2 a (mem_ptsL.mpr ⟨t, List.mem_of_getElem? h1, a1⟩))
      | succ k => exact congrArg (· + 1) (ih n2 (by simpa using h1) (by simpa using h2))
theorem tieL_apart {j : Bool} {ts : List Tr} (nd : (ptsL ts).Nodup) {i k : Nat} {t u : Tr} {a b : Int} (h1 : ts[i]? = some t) (h2 : ts[k]? = some u) (a1 : a ∈ t.pts) (b2 : b ∈ u.pts) (ne : i ≠ k) : tieL j ts a b = j := by
  refine tieL_out fun v hv ⟨x, y⟩ => ?_
  obtain ⟨m, hm, e⟩ := List.mem_iff_getElem.mp hv
  have hm' : ts[m]? = some v := by rw [List.getElem?_eq_getElem hm, e]
  have e1 := nd_disj nd h1 hm' a1 x
  have e2 := nd_disj nd h2 hm' b2 y
  omega
mutual
theorem great_uni (j : Bool) : ∀ t : Tr, t.pts.Nodup → Uni j t (greatT j t)
  | .pt n, _ => by
    intro a ha b hb ne
    rw [greatT] at ha hb
    simp at ha hb
    exact absurd (ha.trans hb.symm) ne
  | .nd i ts, nd => by
    rw [Tr.pts] at nd
    have h2 := greatL_uni j ts nd
    intro a ha b hb ne
    rw [greatT] at ha hb
    rw [Tr.tie]
    by_cases e : i = j
    · subst e
      rw [if_pos rfl, greatL_map] at ha hb
      obtain ⟨la, hla, ma⟩ := List.mem_flatten.mp ha
      obtain ⟨lb, hlb, mb⟩ := List.mem_flatten.mp hb
      obtain ⟨ta, hta, rfl⟩ := List.mem_map.mp hla
      obtain ⟨tb, htb, rfl⟩ := List.mem_map.mp hlb
      obtain ⟨x, hx, ex⟩ := List.mem_iff_getElem.mp hta
      obtain ⟨y, hy, ey⟩ := List.mem_iff_getElem.mp htb
      have hx' : ts[x]? = some ta := by rw [List.getElem?_eq_getElem hx, ex]
      have hy' : ts[y]? = some tb := by rw [List.getElem?_eq_getElem hy, ey]
      by_cases exy : x = y
      · subst exy
        rw [hx'] at hy'
        cases hy'
        rw [tieL_in nd hta (great_in ma) (great_in mb)]
        exact h2 ta hta a ma b mb ne
      · exact tieL_apart nd hx' hy' (great_in ma) (great_in mb) exy
    · rw [if_neg e] at ha hb
      by_cases e0 : ts = []
      · subst e0
        simp [greatL, pickL] at ha
      · obtain ⟨t, ht, ep⟩ := pickL_sub (j := j) e0
        rw [ep] at ha hb
        rw [tieL_in nd ht (great_in ha) (great_in hb)]
        exact h2 t ht a ha b hb ne
theorem greatL_uni (j : Bool) : ∀ ts : List Tr, (ptsL ts).Nodup → ∀ t ∈ ts, Uni j t (greatT j t)
  | [], _ => fun _ h => nomatch h
  | t :: ts, nd => by
    rw [ptsL] at nd
    have h0 := great_uni j t (List.nodup_append.mp nd).1
    intro u hu
    rcases List.mem_cons.mp hu with rfl | hu
    · exact h0
    · exact greatL_uni j ts (List.nodup_append.mp nd).2.1 u hu
end
/-! the fewest -/
def zipApp : List (List Int) → List (List Int) → List (List Int)
  | as, [] => as
  | [], b :: bs => b :: bs
  | a :: as, b :: bs => (a ++ b) :: zipApp as bs
theorem zipApp_nil (as : List (List Int)) : zipApp as [] = as := by cases as <;> rfl
theorem zipApp_len : ∀ as bs : List (List Int), (zipApp as bs).length = max as.length bs.length
  | as, [] => by rw [zipApp_nil]; simp
  | [], b :: bs => by rw [zipApp]; simp
  | a :: as, b :: bs => by rw [zipApp, List.length_cons, zipApp_len as bs, List.length_cons, List.length_cons]; omega
theorem zipApp_mem : ∀ {as bs : List (List Int)} {l : List Int}, l ∈ zipApp as bs → l ∈ as ∨ l ∈ bs ∨ ∃ a ∈ as, ∃ b ∈ bs, l = a ++ b
  | as, [], l, h => by rw [zipApp_nil] at h; exact .inl h
  | [], b :: bs, l, h => by rw [zipApp] at h; exact .inr (.inl h)
  | a :: as, b :: bs, l, h => by
    rw [zipApp] at h
    rcases List.mem_cons.mp h with rfl | h
    · exact .inr (.inr ⟨a, by simp, b, by simp, rfl⟩)
    · rcases zipApp_mem h with h | h | ⟨x, hx, y, hy, e⟩
      · exact .inl (by simp [h])
      · exact .inr (.inl (by simp [h]))
      · exact .inr (.inr ⟨x, by simp [hx], y, by simp [hy], e⟩)
theorem zipApp_perm : ∀ as bs : List (List Int), (zipApp as bs).flatten.Perm (as.flatten ++ bs.flatten)
  | as, [] => by rw [zipApp_nil]; simp
  | [], b :: bs => by rw [zipApp]; simp
  | a :: as, b :: bs => by
    rw [zipApp, List.flatten_cons, List.flatten_cons, List.flatten_cons]
    have h := zipApp_perm as bs
    have h1 : (a ++ b ++ (zipApp as bs).flatten).Perm (a ++ (b ++ (as.flatten ++ bs.flatten))) := by
      rw [List.append_assoc]
      exact (h.append_left b).append_left a
    refine h1.trans ?_
    rw [List.append_assoc]
    refine List.Perm.append_left a ?_
    rw [← List.append_assoc, ← List.append_assoc]
    exact (List.perm_append_comm).append_right _
def mergeL (lss : List (List (List Int))) : List (List Int) := lss.foldl zipApp []
theorem mergeL_snoc (lss : List (List (List Int))) (ls : List (List Int)) : mergeL (lss ++ [ls]) = zipApp (mergeL lss) ls := by simp [mergeL, List.foldl_append]
mutual
def fewT (j : Bool) : Tr → List (List Int)
  | .pt n => [[n]]
  | .nd i ts => if i = j then mergeL (fewL j ts) else (fewL j ts).flatten
def fewL (j : Bool) : List Tr → List (List (List Int))
  | [] => []
  | t :: ts => fewT j t :: fewL j ts
end
theorem fewL_map (j : Bool) (ts : List Tr) : fewL j ts = ts.map (fewT j) := by
  induction ts with
  | nil => rw [fewL]; rfl
  | cons t ts ih => rw [fewL, ih]; rfl
/-- what stays true from prefix to prefix -/
theorem list_snoc_ind {α : Type} {P : List α → Prop} (h0 : P []) (h1 : ∀ l a, P l → P (l ++ [a])) (l : List α) : P l := by
  have : ∀ n (l : List α), l.length = n → P l := by
    intro n
    induction n with
    | zero => intro l e; rw [List.length_eq_zero_iff.mp e]; exact h0
    | succ n ih =>
      intro l e
      have ne : l ≠ [] := fun z => by subst z; simp at e
      rw [← List.dropLast_concat_getLast ne]
      exact h1 _ _ (ih _ (by simp [e]))
  exact this _ l rfl
theorem topG_snoc (j : Bool) (ts : List Tr) (t : Tr) : topG j (ts ++ [t]) = max (topG j ts) (gN j t) := by
  rw [topG_app, topG, topG]
  omega
theorem mergeL_len {j k : Bool} (ts : List Tr) (h : ∀ t ∈ ts, (fewT j t).length = gN k t) : (mergeL (ts.map (fewT j))).length = topG k ts := by
  induction ts using list_snoc_ind with
  | h0 => rw [topG]; rfl
  | h1 ts t ih =>
    rw [List.map_append, List.map_singleton, mergeL_snoc, zipApp_len, topG_snoc, ih fun u hu => h u (by simp [hu]), h t (by simp)]
mutual
theorem few_len (j : Bool) : ∀ t : Tr, (fewT j t).length = gN (!j) t
  | .pt n => by rw [fewT, gN]; rfl
  | .nd i ts => by
    have h := fewL_len j ts
    rw [fewT, gN]
    by_cases e : i = j
    · rw [if_pos e, if_neg (by subst e; cases i <;> simp), fewL_map]
      exact mergeL_len ts h.2
    · rw [if_neg e, if_pos (by cases i <;> cases j <;> simp at e ⊢)]
      exact h.1
theorem fewL_len (j : Bool) : ∀ ts : List Tr, (fewL j ts).flatten.length = addG (!j) ts ∧ ∀ t ∈ ts, (fewT j t).length = gN (!j) t
  | [] => by simp [fewL, addG]
  | t :: ts => by
    obtain ⟨h1, h2⟩ := fewL_len j ts
    have h0 := few_len j t
    rw [fewL, addG, List.flatten_cons, List.length_append, h1, h0]
    refine ⟨rfl, fun u hu => ?_⟩
    rcases List.mem_cons.mp hu with rfl | hu
    · exact h0
    · exact h2 u hu
end
theorem mergeL_perm {j : Bool} (ts : List Tr) (h : ∀ t ∈ ts, (fewT j t).flatten.Perm t.pts) : (mergeL (ts.map (fewT j))).flatten.Perm (ptsL ts) := by
  induction ts using list_snoc_ind with
  | h0 => rw [ptsL]; exact List.Perm.refl _
  | h1 ts t ih =>
    rw [List.map_append, List.map_singleton, mergeL_snoc, ptsL_app, ptsL, ptsL, List.append_nil]
    exact (zipApp_perm _ _).trans ((ih fun u hu => h u (by simp [hu])).append (h t (by simp)))
mutual
theorem few_perm (j : Bool) : ∀ t : Tr, (fewT j t).flatten.Perm t.pts
  | .pt n => by rw [fewT, Tr.pts]; simp
  | .nd i ts => by
    have h := fewL_perm j ts
    rw [fewT, Tr.pts]
    split
    · rw [fewL_map]
      exact mergeL_perm ts h.2
    · exact h.1
theorem fewL_perm (j : Bool) : ∀ ts : List Tr, (fewL j ts).flatten.flatten.Perm (ptsL ts) ∧ ∀ t ∈ ts, (fewT j t).flatten.Perm t.pts
  | [] => by simp [fewL, ptsL]
  | t :: ts => by
    obtain ⟨h1, h2⟩ := fewL_perm j ts
    have h0 := few_perm j t
    rw [fewL, ptsL, List.flatten_cons, List.flatten_append]
    refine ⟨h0.append h1, fun u hu => ?_⟩
    rcases List.mem_cons.mp hu with rfl | hu
    · exact h0
    · exact h2 u hu
end
theorem mergeL_ne {j : Bool} (ts : List Tr) (h : ∀ t ∈ ts, ∀ l ∈ fewT j t, l ≠ []) : ∀ l ∈ mergeL (ts.map (fewT j)), l ≠ [] := by
  induction ts using list_snoc_ind with
  | h0 => intro l hl; simp [mergeL] at hl
  | h1 ts t ih =>
    intro l hl
    rw [List.map_append, List.map_singleton, mergeL_snoc] at hl
    rcases zipApp_mem hl with q | q | ⟨a, ha, b, hb, rfl⟩
    · exact ih (fun u hu => h u (by simp [hu])) l q
    · exact h t (by simp) l q
    · have := h t (by simp) b hb
      simp [this]
mutual
theorem few_ne (j : Bool) : ∀ t : Tr, ∀ l ∈ fewT j t, l ≠ []
  | .pt n => by rw [fewT]; simp
  | .nd i ts => by
    have h := fewL_ne j ts
    rw [fewT]
    split
    · rw [fewL_map]
      exact mergeL_ne ts h
    · intro l hl
      obtain ⟨ls, h1, h2⟩ := List.mem_flatten.mp hl
      rw [fewL_map] at h1
      obtain ⟨t, ht, rfl⟩ := List.mem_map.mp h1
      exact h t ht l h2
theorem fewL_ne (j : Bool) : ∀ ts : List Tr, ∀ t ∈ ts, ∀ l ∈ fewT j t, l ≠ []
  | [] => fun _ h => nomatch h
  | t :: ts => by
    have h0 := few_ne j t
    intro u hu
    rcases List.mem_cons.mp hu with rfl | hu
    · exact h0
    · exact fewL_ne j ts u hu
end
theorem few_in {j : Bool} {t : Tr} {l : List Int} {n : Int} (h : l ∈ fewT j t) (hn : n ∈ l) : n ∈ t.pts := (few_perm j t).mem_iff.mp (List.mem_flatten.mpr ⟨l, h, hn⟩)
theorem mergeL_in {j : Bool} {ts : List Tr} {l : List Int} {n : Int} (h : l ∈ mergeL (ts.map (fewT j))) (hn : n ∈ l) : n ∈ ptsL ts := (mergeL_perm ts fun t _ => few_perm j t).mem_iff.mp (List.mem_flatten.mpr ⟨l, h, hn⟩)
/-- in a merged list, those that are of one part are of one list of it -/
theorem mergeL_part {j : Bool} (ts : List Tr) (nd : (ptsL ts).Nodup) : ∀ l ∈ mergeL (ts.map (fewT j)), ∀ a ∈ l, ∀ b ∈ l, ∀ t ∈ ts, a ∈ t.pts → b ∈ t.pts → ∃ m ∈ fewT j t, a ∈ m ∧ b ∈ m := by
  induction ts using list_snoc_ind with
  | h0 => intro l hl; simp [mergeL] at hl
  | h1 ts t ih =>
    rw [ptsL_app, ptsL, ptsL, List.append_nil] at nd
    obtain ⟨n1, n2, n3⟩ := List.nodup_append.mp nd
    intro l hl a ha b hb u hu au bu
    rw [List.map_append, List.map_singleton, mergeL_snoc] at hl
    have inTs : ∀ {x : Int}, x ∈ u.pts → u ∈ ts → x ∈ ptsL ts := fun hx h => mem_ptsL.mpr ⟨u, h, hx⟩
    have key : ∀ (x : List Int), x ∈ mergeL (ts.map (fewT j)) → a ∈ x → b ∈ x → u ∈ ts ∨ u = t → ∃ m ∈ fewT j u, a ∈ m ∧ b ∈ m := fun x hx ax bx hu => by
      rcases hu with hu | rfl
      · exact ih n1 x hx a ax b bx u hu au bu
      · exact absurd rfl (n3 a (mergeL_in hx ax) a au)
    have key2 : ∀ (y : List Int), y ∈ fewT j t → a ∈ y → b ∈ y → u ∈ ts ∨ u = t → ∃ m ∈ fewT j u, a ∈ m ∧ b ∈ m := fun y hy ay bY hu => by
      rcases hu with hu | rfl
      · exact absurd rfl (n3 a (inTs au hu) a (few_in hy ay))
      · exact ⟨y, hy, ay, bY⟩
    have hu' : u ∈ ts ∨ u = t := by simpa using hu
    rcases zipApp_mem hl with q | q | ⟨x, hx, y, hy, rfl⟩
    · exact key l q ha hb hu'
    · exact key2 l q ha hb hu'
    · rcases List.mem_append.mp ha with a1 | a1 <;> rcases List.mem_append.mp hb with b1 | b1
      · exact key x hx a1 b1 hu'
      · rcases hu' with h | rfl
        · exact absurd rfl (n3 b (inTs bu h) b (few_in hy b1))
        · exact absurd rfl (n3 a (mergeL_in hx a1) a au)
      · rcases hu' with h | rfl
        · exact absurd rfl (n3 a (inTs au h) a (few_in hy a1))
        · exact absurd rfl (n3 b (mergeL_in hx b1) b bu)
      · exact key2 y hy a1 b1 hu'
mutual
theorem few_uni (j : Bool) : ∀ t : Tr, t.pts.Nodup → ∀ l ∈ fewT j t, Uni j t l
  | .pt n, _ => by
    intro l hl a ha b hb ne
    rw [fewT] at hl
    simp at hl
    subst hl
    simp at ha hb
    exact absurd (ha.trans hb.symm) ne
  | .nd i ts, nd => by
    rw [Tr.pts] at nd
    have h2 := fewL_uni j ts nd
    intro l hl a ha b hb ne
    rw [fewT] at hl
    rw [Tr.tie]
    by_cases e : i = j
    · subst e
      rw [if_pos rfl, fewL_map] at hl
      by_cases hs : ∃ t ∈ ts, a ∈ t.pts ∧ b ∈ t.pts
      · obtain ⟨t, ht, ha', hb'⟩ := hs
        obtain ⟨m, hm, am, bm⟩ := mergeL_part ts nd l hl a ha b hb t ht ha' hb'
        rw [tieL_in nd ht ha' hb']
        exact h2 t ht m hm a am b bm ne
      · exact tieL_out fun t ht z => hs ⟨t, ht, z⟩
    · rw [if_neg e, fewL_map] at hl
      obtain ⟨ls, q1, q2⟩ := List.mem_flatten.mp hl
      obtain ⟨t, ht, rfl⟩ := List.mem_map.mp q1
      rw [tieL_in nd ht (few_in q2 ha) (few_in q2 hb)]
      exact h2 t ht l q2 a ha b hb ne
theorem fewL_uni (j : Bool) : ∀ ts : List Tr, (ptsL ts).Nodup → ∀ t ∈ ts, ∀ l ∈ fewT j t, Uni j t l
  | [], _ => fun _ h => nomatch h
  | t :: ts, nd => by
    rw [ptsL] at nd
    have h0 := few_uni j t (List.nodup_append.mp nd).1
    intro u hu
    rcases List.mem_cons.mp hu with rfl | hu
    · exact h0
    · exact fewL_uni j ts (List.nodup_append.mp nd).2.1 u hu
end
end Jk

namespace Jk
open PySem L2 Evl
theorem zipApp_step : ∀ {m : Nat} {as bs : List (List Int)} {b : List Int}, bs[m]? = some b →
    (m < as.length → (zipApp as (bs.take (m + 1)) = (zipApp as (bs.take m)).set m (as.getD m [] ++ b) ∧ (zipApp as (bs.take m))[m]? = some (as.getD m []))) ∧
    (as.length ≤ m → (zipApp as (bs.take (m + 1)) = zipApp as (bs.take m) ++ [b] ∧ (zipApp as (bs.take m)).length = m))
  | m, as, [], b, h => by simp at h
  | 0, [], c :: bs, b, h => by
    simp at h
    subst h
    simp [zipApp]
  | 0, a :: as, c :: bs, b, h => by
    simp at h
    subst h
    simp [zipApp, zipApp_nil]
  | m + 1, [], c :: bs, b, h => by
    have h' : bs[m]? = some b := by simpa using h
    have lt := (List.getElem?_eq_some_iff.mp h').1
    refine ⟨fun z => by simp at z, fun _ => ?_⟩
    rw [List.take_succ_cons, List.take_succ_cons, zipApp, zipApp, take_one h']
    refine ⟨rfl, ?_⟩
    simp
    omega
  | m + 1, a :: as, c :: bs, b, h => by
    have h' : bs[m]? = some b := by simpa using h
    obtain ⟨h1, h2⟩ := zipApp_step (as := as) h'
    rw [List.take_succ_cons, List.take_succ_cons, zipApp, zipApp]
    refine ⟨fun z => ?_, fun z => ?_⟩
    · obtain ⟨e1, e2⟩ := h1 (by simpa using z)
      refine ⟨?_, by simpa using e2⟩
      rw [e1]
      simp
    · obtain ⟨e1, e2⟩ := h2 (by simpa using z)
      refine ⟨by rw [e1]; rfl, by simp [e2]⟩
/-- the number of the list where it goes, filled up -/
theorem zipApp_next {m : Nat} {as bs : List (List Int)} {b : List Int} (h : bs[m]? = some b) : ∃ ms : List (List Int), ms = (if m = (zipApp as (bs.take m)).length then zipApp as (bs.take m) ++ [[]] else zipApp as (bs.take m)) ∧ ms[m]? = some (as.getD m []) ∧ ms.set m (as.getD m [] ++ b) = zipApp as (bs.take (m + 1)) ∧ m < ms.length := by
  obtain ⟨h1, h2⟩ := zipApp_step (as := as) h
  refine ⟨_, rfl, ?_⟩
  by_cases c : m < as.length
  · obtain ⟨e1, e2⟩ := h1 c
    have lt := (List.getElem?_eq_some_iff.mp e2).1
    rw [if_neg (by omega)]
    exact ⟨e2, e1.symm, lt⟩
  · obtain ⟨e1, e2⟩ := h2 (by omega)
    rw [if_pos e2.symm, e1]
    have g : as.getD m [] = [] := by rw [List.getD_eq_getElem?_getD, List.getElem?_eq_none (by omega)]; rfl
    rw [g]
    generalize hz : zipApp as (bs.take m) = z at e2
    subst e2
    simp
theorem fewL_len' (j : Bool) (ts : List Tr) : (fewL j ts).length = ts.length := by rw [fewL_map, List.length_map]
theorem fewL_step {j : Bool} {ts : List Tr} {i : Nat} {u : Tr} (h : ts[i]? = some u) : mergeL (fewL j (ts.take (i + 1))) = zipApp (mergeL (fewL j (ts.take i))) (fewT j u) := by
  rw [take_one h, fewL_map, fewL_map, List.map_append, List.map_singleton, mergeL_snoc]
theorem merge_bounds (j : Bool) (ts : List Tr) : (mergeL (fewL j ts)).length ≤ (ptsL ts).length ∧ ∀ l ∈ mergeL (fewL j ts), l.length ≤ (ptsL ts).length := by
  have p := mergeL_perm (j := j) ts fun t _ => few_perm j t
  rw [fewL_map]
  refine ⟨?_, fun l hl => ?_⟩
  · rw [mergeL_len (k := !j) ts fun t _ => few_len j t]
    exact topG_le _ _
  · rw [← p.length_eq]
    exact (List.sublist_flatten_of_mem hl).length_le
theorem few_bounds (j : Bool) (t : Tr) : (fewT j t).length ≤ t.pts.length ∧ ∀ l ∈ fewT j t, l.length ≤ t.pts.length := by
  have p := few_perm j t
  refine ⟨by rw [few_len]; exact gN_le _ _, fun l hl => ?_⟩
  rw [← p.length_eq]
  exact (List.sublist_flatten_of_mem hl).length_le
theorem getD_le {ms : List (List Int)} {n m : Nat} (h : ∀ l ∈ ms, l.length ≤ n) : (ms.getD m []).length ≤ n := by
  rw [List.getD_eq_getElem?_getD]
  cases e : ms[m]? with
  | none => simp
  | some l => exact h l (List.mem_of_getElem? e)
/-! lists of lists, grown and set -/
theorem LsLL.snoc {H : Hp} {l p : Addr} {lss : List (List Int)} {as : List Addr} {ns : List Int} (h : LsLL H l lss as) (hp : LsI H p ns) (pl : p ≠ l) (al : ∀ a ∈ as, a ≠ l) : LsLL (upd H l (.lst (as.map V.ref ++ [.ref p]))) l (lss ++ [ns]) (as ++ [p]) := by
  refine ⟨by rw [upd_same, List.map_append]; rfl, by simp [h.len], fun i a ls x y => ?_⟩
  rcases app_get x with ⟨h1, h2⟩ | ⟨h1, h2⟩
  · rw [List.getElem?_append_left (by rw [← h.len]; exact h1)] at y
    have := h.all i a ls h2 y
    unfold LsI
    rw [upd_ne (al a (List.mem_of_getElem? h2))]
    exact this
  · subst h2
    rw [h1, h.len] at y
    simp at y
    subst y
    unfold LsI
    rw [upd_ne pl]
    exact hp
theorem LsLL.put {H : Hp} {l p : Addr} {lss : List (List Int)} {as : List Addr} {ns : List Int} {m : Nat} (h : LsLL H l lss as) (hp : LsI H p ns) (pl : p ≠ l) (al : ∀ a ∈ as, a ≠ l) : LsLL (upd H l (.lst ((as.map V.ref).set m (.ref p)))) l (lss.set m ns) (as.set m p) := by
  refine ⟨by rw [upd_same, List.map_set], by simp [h.len], fun i a ls x y => ?_⟩
  rw [List.getElem?_set] at x y
  by_cases e : m = i
  · subst e
    rw [if_pos rfl] at x y
    split at x
    · rename_i lt
      rw [if_pos (by rw [← h.len]; exact lt)] at y
      cases x
      cases y
      unfold LsI
      rw [upd_ne pl]
      exact hp
    · cases x
  · rw [if_neg e] at x y
    have := h.all i a ls x y
    unfold LsI
    rw [upd_ne (al a (List.mem_of_getElem? x))]
    exact this
end Jk

namespace Jk
open PySem PySem.Spec PyProof.Rows L2 Evl
/-! ## the number of unlike ones -/
theorem sub_len {α : Type} [DecidableEq α] : ∀ {l m : List α}, l.Nodup → (∀ x ∈ l, x ∈ m) → l.length ≤ m.length
  | [], m, _, _ => Nat.zero_le _
  | a :: l, m, nd, h => by
    obtain ⟨n1, n2⟩ := List.nodup_cons.mp nd
    have hm := h a (by simp)
    have := sub_len (m := m.erase a) n2 fun x hx => (List.mem_erase_of_ne fun e => n1 (by rw [← e]; exact hx)).mpr (h x (by simp [hx]))
    rw [List.length_erase_of_mem hm] at this
    have : 0 < m.length := List.length_pos_of_mem hm
    simp
    omega
theorem same_len {α : Type} [DecidableEq α] {l m : List α} (n1 : l.Nodup) (n2 : m.Nodup) (h : ∀ x, x ∈ l ↔ x ∈ m) : l.length = m.length :=
  Nat.le_antisymm (sub_len n1 fun x hx => (h x).mp hx) (sub_len n2 fun x hx => (h x).mpr hx)
theorem met_in (f : Nat → Int) (n : Nat) (x : Int) : x ∈ PyProof.Rows.firstMet f n ↔ x ∈ (List.range n).map f := by
  have h := PyProof.Rows.firstMet_any f n x
  rw [Bool.eq_iff_iff, List.any_eq_true, List.any_eq_true] at h
  constructor
  · intro hx
    obtain ⟨y, hy, e⟩ := h.mp ⟨x, hx, beq_self_eq_true _⟩
    rw [← eq_of_beq e]; exact hy
  · intro hx
    obtain ⟨y, hy, e⟩ := h.mpr ⟨x, hx, beq_self_eq_true _⟩
    rw [← eq_of_beq e]; exact hy
theorem met_nd (f : Nat → Int) : ∀ n : Nat, (PyProof.Rows.firstMet f n).Nodup
  | 0 => List.nodup_nil
  | n + 1 => by
    have ih := met_nd f n
    rw [PyProof.Rows.firstMet_succ]
    unfold PyProof.Rows.step_dedup
    split
    · exact ih
    · rename_i h
      rw [List.nodup_append]
      refine ⟨ih, by simp, fun x hx y hy e => h ?_⟩
      simp at hy
      subst hy
      subst e
      rw [List.any_eq_true]
      exact ⟨_, hx, beq_self_eq_true _⟩
def jLenSetN (ta : TE) : TE := fun σ H Q => ta σ H fun x H1 => ∃ (l : Addr), x = .ref l ∧ ∃ (ns us : List Int), LsI H1 l ns ∧ ns.length ≤ 1000 ∧ us.Nodup ∧ (∀ x, x ∈ us ↔ x ∈ ns) ∧ Q (.int us.length) H1
@[simp] theorem j_lenSetN {ta : TE} {σ : L2.St} {H : Hp} {Q : VK} : jLenSetN ta σ H Q = ta σ H fun x H1 => ∃ (l : Addr), x = .ref l ∧ ∃ (ns us : List Int), LsI H1 l ns ∧ ns.length ≤ 1000 ∧ us.Nodup ∧ (∀ x, x ∈ us ↔ x ∈ ns) ∧ Q (.int us.length) H1 := rfl
theorem pe_lenSetN {X : Cx} {a : Expr} {ta : TE} {p p2 pos pos2 : Pos} (hc : X.calm = true) (g1 : Gl X "len") (m1 : X.mg "len" = none) (g2 : Gl X "set") (m2 : X.mg "set" = none) (ha : PE X a ta)
    (na : starEach [a] X.env = (false, eval a X.env) :: starEach [] X.env := by rfl) : PE X (.Call (.Name "len" p) [.Call (.Name "set" p2) [a] [] pos2] [] pos) (jLenSetN ta) := by
  refine ⟨fun pins s σ H Q I h => Call_ (ld_blt I g1 m1 PySem.boot_len (PyProof.Rows.callWith_builtin1 (PyProof.Rows.args_cons (Call_ (ld_blt I g2 m2 PyProof.Rows.boot_set ?_)) rfl) rfl rfl))⟩
  refine PyProof.Rows.callWith_type1 (PyProof.Rows.args_cons (thn (ha.run pins s σ H _ I h) ?_) na) na rfl
  rintro v s1 ⟨x, H1, I1, r1, l, rfl, ns, us, hq, hlen, und, uin, q1⟩
  refine PyProof.Rows.args_nil ?_
  cases r1
  obtain ⟨its, r, pl, hz⟩ := I1.list (.inl (.inl hq))
  have en : its.toArray.size = ns.length := by simpa using r.length.symm
  refine call_set_list (I1.ok.hd hc) pl.isList (ns := ns) (by simpa using r.ints) (by unfold scanBound; omega) fun h2 tk hS hk => PyProof.Rows.args_nil ?_
  rw [en] at hS
  obtain ⟨o, es, ep, t, ho, hex, hd, _, _, _, hf, hn⟩ := hS
  have k1 := (met_len (fun i => ns.getD i 0) ns.length).1
  have k2 : (PyProof.Rows.firstMet (fun i => ns.getD i 0) ns.length).length = us.length := same_len (met_nd _ _) und fun x => by rw [met_in, met_list, uin]
  have J : Inv X pins σ H1 { s1 with heap := h2, toks := tk } := I1.kept fun b o e => hk b o (Heap.lt_size e) e
  refine call_len_set ho hex hd hf (by rw [hn]; omega) ⟨.int us.length, H1, J.tok _, ⟨_, by rw [hn, k2]⟩, q1⟩
/-! ## colours, by points -/
def colN (ls : List (List Int)) (m : Nat) : List (Key × V) := (List.range m).flatMap fun c => (ls.getD c []).map fun p => ((Sum.inl p : Key), V.int (c : Nat))
def midN (ls : List (List Int)) (m r : Nat) : List (Key × V) := colN ls m ++ ((ls.getD m []).take r).map fun p => ((Sum.inl p : Key), V.int (m : Nat))
theorem colN_succ (ls : List (List Int)) (m : Nat) : colN ls (m + 1) = colN ls m ++ (ls.getD m []).map fun p => ((Sum.inl p : Key), V.int (m : Nat)) := by
  unfold colN
  rw [List.range_succ, List.flatMap_append]
  simp
theorem flat_takeD (ls : List (List Int)) (m : Nat) : (ls.take (m + 1)).flatten = (ls.take m).flatten ++ ls.getD m [] := by
  rw [List.getD_eq_getElem?_getD]
  cases e : ls[m]? with
  | none =>
    rw [List.getElem?_eq_none_iff] at e
    rw [List.take_of_length_le (by omega), List.take_of_length_le e]
    simp
  | some l => rw [flat_take e]; rfl
theorem colN_keys (ls : List (List Int)) : ∀ m : Nat, (colN ls m).map (·.1) = ((ls.take m).flatten).map fun p => (Sum.inl p : Key)
  | 0 => rfl
  | m + 1 => by
    rw [colN_succ, List.map_append, colN_keys ls m, flat_takeD, List.map_append, List.map_map]
    rfl
theorem midN_keys (ls : List (List Int)) (m r : Nat) : (midN ls m r).map (·.1) = ((ls.take m).flatten ++ (ls.getD m []).take r).map fun p => (Sum.inl p : Key) := by
  rw [midN, List.map_append, colN_keys, List.map_append, List.map_map]
  rfl
theorem valV_none {κ : Type} [DecidableEq κ] {kvs : List (κ × V)} {k : κ} (h : ¬ k ∈ kvs.map (·.1)) : valV kvs k = none := by
  unfold valV
  simp only [Option.map_eq_none_iff, List.find?_eq_none]
  intro p hp e
  exact h (List.mem_map.mpr ⟨p, hp, by simpa using e⟩)
theorem valV_at {κ : Type} [DecidableEq κ] {kvs : List (κ × V)} (nd : (kvs.map (·.1)).Nodup) {p : κ × V} (h : p ∈ kvs) : valV kvs p.1 = some p.2 := by
  induction kvs with
  | nil => cases h
  | cons q kvs ih =>
    rw [List.map_cons, List.nodup_cons] at nd
    unfold valV at ih ⊢
    rcases List.mem_cons.mp h with rfl | h
    · rw [List.find?_cons_of_pos (by simp)]
      rfl
    · have ne : ¬ q.1 = p.1 := fun e => nd.1 (List.mem_map.mpr ⟨p, h, e.symm⟩)
      rw [List.find?_cons_of_neg (by simpa using ne)]
      exact ih nd.2 h
theorem midN_put {ls : List (List Int)} (nd : ls.flatten.Nodup) {m r : Nat} {p : Int} (hp : (ls.getD m [])[r]? = some p) : putK (midN ls m r) (Sum.inl p) (V.int (m : Nat)) = midN ls m (r + 1) := by
  rw [putK_new]
  · rw [midN, midN, take_one hp, List.map_append, List.append_assoc]
    rfl
  · refine valV_none fun h => ?_
    rw [midN_keys] at h
    obtain ⟨q, hq, e⟩ := List.mem_map.mp h
    cases e
    have hn : ((ls.take m).flatten ++ (ls.getD m []).take (r + 1)).Nodup := by
      refine nd.sublist ?_
      have h1 : ((ls.take m).flatten ++ ls.getD m []).Sublist ls.flatten := by
        rw [← flat_takeD]
        have z : ls.flatten = (ls.take (m + 1)).flatten ++ (ls.drop (m + 1)).flatten := by rw [← List.flatten_append, List.take_append_drop]
        rw [z]
        exact List.sublist_append_left _ _
      exact (List.Sublist.append (List.Sublist.refl _) (List.take_sublist _ _)).trans h1
    rw [take_one hp, ← List.append_assoc] at hn
    exact (List.nodup_append.mp hn).2.2 p hq p (by simp) rfl
theorem midN_zero (ls : List (List Int)) (m : Nat) : midN ls m 0 = colN ls m := by simp [midN]
theorem midN_end (ls : List (List Int)) (m : Nat) : midN ls m (ls.getD m []).length = colN ls (m + 1) := by rw [midN, colN_succ, List.take_length]
theorem midN_len (ls : List (List Int)) (m r : Nat) : (midN ls m r).length ≤ ls.flatten.length := by
  have h := congrArg List.length (midN_keys ls m r)
  rw [List.length_map, List.length_map, List.length_append, List.length_take] at h
  have h1 := flat_le ls (m + 1)
  rw [flat_takeD, List.length_append] at h1
  omega
def valN (ls : List (List Int)) (m : Nat) : List Int := (List.range m).flatMap fun c => (ls.getD c []).map fun _ => ((c : Nat) : Int)
theorem colN_vals (ls : List (List Int)) (m : Nat) : (colN ls m).map (·.2) = (valN ls m).map V.int := by
  unfold colN valN
  rw [List.map_flatMap, List.map_flatMap]
  congr 1
  funext c
  rw [List.map_map, List.map_map]
  rfl
theorem rgI_nd (n : Nat) : ((List.range n).map fun i : Nat => (i : Int)).Nodup := by
  have h : ((List.range n).map fun i : Nat => (i : Int)).Pairwise (· ≠ ·) := by
    rw [List.pairwise_map]
    exact List.nodup_range.imp fun h e => h (by omega)
  exact h
theorem valN_in {ls : List (List Int)} (ne : ∀ l ∈ ls, l ≠ []) (x : Int) : x ∈ ((List.range ls.length).map fun i : Nat => (i : Int)) ↔ x ∈ valN ls ls.length := by
  have rin : x ∈ ((List.range ls.length).map fun i : Nat => (i : Int)) ↔ 0 ≤ x ∧ x < ls.length := by
    rw [List.mem_map]
    constructor
    · rintro ⟨i, hi, rfl⟩
      have := List.mem_range.mp hi
      omega
    · intro h
      exact ⟨x.toNat, List.mem_range.mpr (by omega), by omega⟩
  rw [rin]
  unfold valN
  rw [List.mem_flatMap]
  constructor
  · intro h
    have lt : x.toNat < ls.length := by omega
    refine ⟨x.toNat, List.mem_range.mpr lt, List.mem_map.mpr ?_⟩
    rw [List.getD_eq_getElem?_getD, List.getElem?_eq_getElem lt]
    have := ne _ (List.getElem_mem lt)
    cases e : ls[x.toNat] with
    | nil => exact absurd e this
    | cons a b => exact ⟨a, by simp, by omega⟩
  · rintro ⟨c, hc, hx⟩
    obtain ⟨_, _, rfl⟩ := List.mem_map.mp hx
    have := List.mem_range.mp hc
    omega
end Jk

namespace Jk
open PySem L2 Evl
section
variable {X : Cx} {o i : Expr} {td ty : TE} {pos : Pos}
/-- d[k], d locked perhaps -/
def jDGetR (td ty : TE) : TE := fun σ H Q => td σ H fun x H1 => ty σ H1 fun y H2 => ∃ a kvs k v, x = .ref a ∧ Rd H2 a (.dK kvs) ∧ y = kV k ∧ valV kvs k = some v ∧ Q v H2
@[simp] theorem j_dgetR {σ H Q} : jDGetR td ty σ H Q = td σ H fun x H1 => ty σ H1 fun y H2 => ∃ a kvs k v, x = .ref a ∧ Rd H2 a (.dK kvs) ∧ y = kV k ∧ valV kvs k = some v ∧ Q v H2 := rfl
theorem pe_dgetR (hu : X.A.units + 1 < cLine) (ho : PE X o td) (hi : PE X i ty) (hs : NoSl i) : PE X (.Subscript o i pos) (jDGetR td ty) :=
  (pe_dget hu ho.cl hi.cl hs).by fun σ H Q q => ⟨_, q, fun x H1 k => ⟨_, k, fun y H2 ⟨a, kvs, k, v, e1, h1, e2, e3, q⟩ => ⟨a, v, e1, .inl ⟨kvs, k, h1, e2, e3.symm⟩, q⟩⟩⟩
end
section
variable {J : It} {n : Nat} {G : Hp → Prop} {Y : Nat → Hp → V → Hp → Prop} {g : TG} {te : TE} {vs : List Nat} {σ : L2.St} {H1 : Hp} {D : Addr} {Qd : Hp → Prop}
theorem lc_itS (w : Walk J n G Y) (S : Nat → V → Hp → Prop) (st : StayD D S) (hD : H1 D = none) (hG : ∀ H, Ex H1 H → G H) (few : n ≤ 100000)
    (hs : ∀ i x H H' (N : V → Hp → Prop), i < n → Ex H1 H → Y i H x H' → H D ≠ none → (∀ y H4, Ex H H4 → S i y H4 → N y H4) → g x (wipe σ vs) H' fun σ2 H2 => wipe σ2 vs = wipe σ vs ∧ te σ2 H2 N)
    (hd : ∀ acc H', Ex H1 H' → H' D = some (.lst acc) → acc.length = n → (∀ (i : Nat) (y : V), acc[i]? = some y → S i y H') → Qd H') :
    ∃ W : Nat → Nat → Hp → Prop, (∃ m, W 0 m (upd H1 D (.lst []))) ∧ ∀ i m H, W i m H →
      (J.stop i H ∧ Qd H) ∨ (J.go i H ∧ ∃ Nx : Hp → Prop, (∀ H', Nx H' → ∃ m', m' < m ∧ W (i + 1) m' H') ∧ ∀ x H', J.yld i H x H' → g x (wipe σ vs) H' fun σ2 H2 => wipe σ2 vs = wipe σ vs ∧ tYes σ2 H2 fun b H3 =>
        if b = true then te σ2 H3 fun y H4 => ∃ acc, H4 D = some (.lst acc) ∧ acc.length < sizeLine ∧ Nx (upd H4 D (.lst (acc ++ [y]))) else Nx H3) := by
  refine lc_it w (CompS D H1 S) (CompS.start hD) (fun i H _ c => hG H c.ex) (fun i x H H' hi c y => ?_) (fun H c => ?_)
  · obtain ⟨acc, h1, _⟩ := id c.ac
    exact hs i x H H' _ hi c.ex y (by rw [h1]; simp) fun y H4 e hy => c.push st hD e hy (by omega)
  · obtain ⟨e, acc, h1, h2, h3⟩ := c
    exact hd acc H e h1 h2 h3
end
theorem ex_lock {H H' : Hp} {d : Addr} {u f : HO} (h : H d = some u) (e : Ex (upd H d f) H') : Ex H (upd H' d u) := fun x o hx => by
  by_cases z : x = d
  · subst z
    rw [h] at hx
    cases hx
    exact upd_same
  · rw [upd_ne z]
    exact e _ _ (by rw [upd_ne z]; exact hx)
end Jk

namespace Jk
open PySem PySem.Spec PyProof.Rows L2 Evl
/-! ## repr of a list of small data, dicts of ints among them -/
def dkI (ps : List (Int × Int)) : List (Key × V) := ps.map fun p => ((Sum.inl p.1 : Key), V.int p.2)
def ddI (ps : List (Int × Int)) : PyData := .dict (ps.map fun p => (PyData.int p.1, PyData.int p.2))
inductive ItemsR (h : Heap) : List Value → List PyData → Prop
  | nil : ItemsR h [] []
  | cons {v : Value} {d : PyData} {as : List Addr} {vs : List Value} {ds : List PyData} : Reads h v d as → (d.hasDict = true → sysModules ∉ as) → ItemsR h vs ds → ItemsR h (v :: vs) (d :: ds)
theorem ItemsR.reads {h : Heap} : ∀ {vs : List Value} {ds : List PyData}, ItemsR h vs ds → ∃ as, ReadsAll h vs ds as
  | _, _, .nil => ⟨_, .nil⟩
  | _, _, .cons r _ rs => let ⟨_, q⟩ := rs.reads; ⟨_, .cons r q⟩
theorem ItemsR.kept {h : Heap} {prog : Program} {w : World} : ∀ {vs : List Value} {ds : List PyData}, ItemsR h vs ds → PyData.showableAll ds = true → (∀ t ∈ PyData.shownAll ds, t.length ≤ sizeLine) →
    ∃ bs, ReadAtMost h (PyData.depthAll ds) bs ∧ ReprAllK prog w bs h (PyData.depthAll ds) vs (PyData.shownAll ds)
  | _, _, .nil, _, _ => ⟨[], (fun _ h => nomatch h), by simp only [PyData.shownAll]; exact .nil⟩
  | _, _, .cons (d := d) (ds := ds) r hsm rs, hs, hz => by
    have hs' : d.showable = true ∧ PyData.showableAll ds = true := by simpa [PyData.showableAll] using hs
    obtain ⟨b1, hb1, k1⟩ := ReprK.of_reads (prog := prog) (w := w) r hs'.1 hsm (hz _ (by simp only [PyData.shownAll]; exact List.mem_cons_self ..))
    obtain ⟨b2, hb2, k2⟩ := ItemsR.kept (prog := prog) (w := w) rs hs'.2 (fun t ht => hz t (by simp only [PyData.shownAll]; exact List.mem_cons_of_mem _ ht))
    refine ⟨b1 ++ b2, ?_, ?_⟩
    · intro b hm
      simp only [PyData.depthAll]
      rcases List.mem_append.mp hm with hm | hm
      · obtain ⟨d', as', r', hd'⟩ := hb1 b hm
        exact ⟨d', as', r', Nat.le_trans hd' (Nat.le_max_left _ _)⟩
      · obtain ⟨d', as', r', hd'⟩ := hb2 b hm
        exact ⟨d', as', r', Nat.le_trans hd' (Nat.le_max_right _ _)⟩
    · simp only [PyData.depthAll, PyData.shownAll]
      exact .cons ((k1.more fun b hb => List.mem_append_left _ hb).level_le (Nat.le_max_left _ _)) (k2.more_le (fun b hb => List.mem_append_right _ hb) (Nat.le_max_right _ _))
theorem repr_items {prog : Program} {w : World} {A : Around} {E : Value → Shared → Prop} {s : Shared} {Q : Value → Shared → Prop} {a : Addr} {o : Obj} {vs : List Value} {n : Nat} {ds : List PyData} (h1 : s.heap.get? a = some o) (h2 : o.cls = .type "list") (h3 : o.data = .seq vs.toArray n) (h4 : ItemsR s.heap vs ds)
    (hs : PyData.showableAll ds = true) (hg : A.guards = some []) (hu : A.units + (PyData.depthAll ds + 2) < cLine) (hz : (PyData.list ds).shown.length ≤ sizeLine)
    (hQ : ∀ h' u tk, (∀ b o, s.heap.get? b = some o → h'.get? b = some o) → Q (.str (PyData.list ds).shown u) { s with heap := h', toks := tk }) : wpAny (model prog w) A (call (.builtin "repr") [.ref a]) Q E s := by
  have hz' : (listText (PyData.shownAll ds)).length ≤ sizeLine := by simpa only [PyData.shown] using hz
  obtain ⟨as, ra⟩ := h4.reads
  obtain ⟨bs, hb, hk⟩ := ItemsR.kept (prog := prog) (w := w) h4 hs (fun t ht => Nat.le_trans (listText_mem_le ht) hz')
  have hna : a ∉ bs := not_mem_of_deeper (.list h1 h2 h3 (by simpa using ra)) (by simp only [PyData.depth]; omega) hb
  refine call_repr_slot (by omega) ⟨o, h1, h2⟩ F.slot_list_repr.toG ?_
  simp only [PyData.shown] at hQ
  cases vs with
  | nil =>
    cases h4
    simp only [PyData.shownAll, listText_nil] at hQ
    exact call_list_repr_empty ⟨o, h1, h2⟩ h1 h3 ⟨_, _, rfl, hQ s.heap _ _ fun _ _ e => e⟩
  | cons x l =>
    exact call_list_reprK h1 h2 h3 hna (by simpa using hk.length_eq) (fun i y e => hk.item i y (by simpa using e)) (show A.in1.guards = some [] from hg) (fun b _ => Clear.nil b) (by show A.units + 1 + (PyData.depthAll ds + 1) < cLine; omega) (fun _ _ e => e) (fun h' u tk k => ⟨_, _, rfl, hQ h' u tk k⟩) hz'
theorem dict_reads {prog : Program} {w : World} {h : Heap} : ∀ (ps : List (Int × Int)) (es : List DictEntry) (vs : List (Key × Value)), KV (dkI ps) vs → Pairs (mixKind prog w) es vs → ReadsAll h (es.map (·.key)) (ps.map fun p => PyData.int p.1) [] ∧ ReadsAll h (es.map (·.val)) (ps.map fun p => PyData.int p.2) []
  | [], es, vs, r, p => by
    cases r
    cases p
    exact ⟨.nil, .nil⟩
  | q :: ps, es, vs, r, p => by
    cases r with
    | cons f r =>
      cases p with
      | cons k e p =>
        obtain ⟨i1, i2⟩ := dict_reads ps _ _ r p
        obtain ⟨f1, t, f2⟩ := f
        rw [← f1] at k
        have k' : keyIs (Sum.inl q.1 : Key) _ = true := k
        rcases keyIs_shape k' with ⟨i, t2, k1, k2⟩ | ⟨x, t2, k1, k2⟩
        · cases k1
          refine ⟨?_, ?_⟩
          · rw [List.map_cons, List.map_cons, k2]
            exact .cons (Reads.int _ _) i1
          · rw [List.map_cons, List.map_cons, e, f2]
            exact .cons (Reads.int _ _) i2
        · cases k1
/-- an item of such a list -/
def Dq (K : PySem.W.Frag) (H : Hp) (x : V) (d : PyData) : Prop := (Dp K H x d ∧ d.hasDict = false) ∨ ∃ a ps, x = .ref a ∧ H a = some (.dK (dkI ps)) ∧ d = ddI ps
inductive DqAll (K : PySem.W.Frag) (H : Hp) : List V → List PyData → Prop
  | nil : DqAll K H [] []
  | cons {x : V} {d : PyData} {xs : List V} {ds : List PyData} : Dq K H x d → DqAll K H xs ds → DqAll K H (x :: xs) (d :: ds)
theorem DqAll.items {X : Cx} {pins : List (Addr × Obj)} {σ : L2.St} {H : Hp} {s : Shared} (I : L2.Inv X pins σ H s) : ∀ {xs : List V} {ds : List PyData} {us : List Value}, DqAll X.K H xs ds → Vals xs us → ItemsR s.heap us ds
  | _, _, _, .nil, r => by cases r; exact .nil
  | _, _, _, .cons h hs, r => by
    cases r with
    | cons r1 r2 =>
      have rest := hs.items I r2
      rcases h with ⟨h, nd⟩ | ⟨a, ps, rfl, h, rfl⟩
      · obtain ⟨as, rd⟩ := Dp.reads I _ _ _ h r1
        exact .cons rd (fun z => by rw [nd] at z; cases z) rest
      · obtain ⟨z, hd, vs, rel, o, es, ep, h1, h2, h3, _, h5, _⟩ := dk_of I.hok h
        obtain ⟨d1, d2⟩ := dict_reads (h := s.heap) ps _ _ rel h5
        cases r1
        have e1 : (ps.map fun p => (PyData.int p.1, PyData.int p.2)).map (·.1) = ps.map fun p => PyData.int p.1 := by rw [List.map_map]; rfl
        have e2 : (ps.map fun p => (PyData.int p.1, PyData.int p.2)).map (·.2) = ps.map fun p => PyData.int p.2 := by rw [List.map_map]; rfl
        refine .cons (as := a :: [] ++ []) (Reads.dict h1 h2.1 h3 (by rw [e1]; exact d1) (by rw [e2]; exact d2)) (fun _ hm => ?_) rest
        simp at hm
        rw [hm] at hd
        simp at hd
/-! sizes -/
structure Rq (d : PyData) (w p : Nat) : Prop where
  shw : d.showable = true
  lsh : d.leavesShort 13 = true
  dep : d.depth ≤ p
  wgt : d.weight ≤ w
structure RqL (ds : List PyData) (w p : Nat) : Prop where
  shw : PyData.showableAll ds = true
  lsh : PyData.leavesShortAll 13 ds = true
  dep : PyData.depthAll ds ≤ p
  wgt : PyData.weightAll ds ≤ w
theorem Rp.q {d : PyData} {w p : Nat} (h : Rp d w p) : Rq d w p := ⟨h.shw, PyData.leavesShort_of_canLay0 13 d h.can h.sho, h.dep, h.wgt⟩
theorem RqL.nil (w p : Nat) : RqL [] w p := ⟨rfl, rfl, Nat.zero_le _, Nat.zero_le _⟩
theorem RqL.cons {d : PyData} {ds : List PyData} {w1 w2 p : Nat} (h : Rq d w1 p) (t : RqL ds w2 p) : RqL (d :: ds) (w1 + 1 + w2) p := by
  obtain ⟨a1, a2, a3, a4⟩ := h
  obtain ⟨b1, b2, b3, b4⟩ := t
  exact ⟨by simp [PyData.showableAll, a1, b1], by simp [PyData.leavesShortAll, a2, b2], by simp only [PyData.depthAll]; omega, by simp only [PyData.weightAll]; omega⟩
theorem Rq.mono {d : PyData} {w w' p p' : Nat} (h : Rq d w p) (a : w ≤ w') (b : p ≤ p') : Rq d w' p' := ⟨h.shw, h.lsh, Nat.le_trans h.dep b, Nat.le_trans h.wgt a⟩
theorem Rq.dict : ∀ {ps : List (Int × Int)}, (∀ p ∈ ps, (0 ≤ p.1 ∧ p.1 < 1000) ∧ (0 ≤ p.2 ∧ p.2 < 1000)) → Rq (ddI ps) (22 * ps.length) 1 := by
  have gen : ∀ ps : List (Int × Int), (∀ p ∈ ps, (0 ≤ p.1 ∧ p.1 < 1000) ∧ (0 ≤ p.2 ∧ p.2 < 1000)) → PyData.showableKv (ps.map fun p => (PyData.int p.1, PyData.int p.2)) = true ∧ PyData.leavesShortKv 13 (ps.map fun p => (PyData.int p.1, PyData.int p.2)) = true ∧
      PyData.depthKv (ps.map fun p => (PyData.int p.1, PyData.int p.2)) ≤ 0 ∧ PyData.weightKv (ps.map fun p => (PyData.int p.1, PyData.int p.2)) ≤ 22 * ps.length := by
    intro ps
    induction ps with
    | nil => intro _; exact ⟨rfl, rfl, Nat.le_refl _, Nat.le_refl _⟩
    | cons p ps ih =>
      intro h
      obtain ⟨i1, i2, i3, i4⟩ := ih fun q hq => h q (by simp [hq])
      have hp := h p (by simp)
      obtain ⟨a1, a2, a3, a4⟩ := (Rp.int hp.1).q
      obtain ⟨b1, b2, b3, b4⟩ := (Rp.int hp.2).q
      rw [List.map_cons]
      refine ⟨by simp [PyData.showableKv, a1, b1, i1], by simp [PyData.leavesShortKv, a2, b2, i2], by simp only [PyData.depthKv]; omega, by simp only [PyData.weightKv, List.length_cons]; omega⟩
  intro ps h
  obtain ⟨i1, i2, i3, i4⟩ := gen ps h
  exact ⟨by simpa [ddI, PyData.showable] using i1, by simpa [ddI, PyData.leavesShort] using i2, by simp only [ddI, PyData.depth]; omega, by simp only [ddI, PyData.weight]; omega⟩
def jReprM (K : PySem.W.Frag) : List V → Hp → VK → Prop := fun vs H Q => ∃ (a : Addr) (xs : List V) (ds : List PyData) (w p : Nat), vs = [.ref a] ∧ H a = some (.lst xs) ∧ DqAll K H xs ds ∧ RqL ds w p ∧ w ≤ 2 ^ 19 ∧ p ≤ 60 ∧ Q (.str (PyData.list ds).shown) H
theorem call_reprM {X : Cx} {K0 : PySem.W.Frag} (hg : X.A.guards = some []) (hu : X.A.units + 64 < cLine) (hK : X.K = K0 := by rfl) : CallR X (.builtin "repr") (jReprM K0) := by
  subst hK
  intro pins s σ H xs us Q I r h
  obtain ⟨a, xs', ds, w, p, rfl, hl, hd, hr, hw, hp, q⟩ := h
  obtain ⟨u, rfl, ru⟩ := vals1 r
  cases ru
  obtain ⟨hz, its, n, rv, ho⟩ : xs'.length ≤ sizeLine ∧ ∃ (its : List Value) (n : Nat), Vals xs' its ∧ s.heap.get? a = some { cls := .type "list", data := .seq its.toArray n } := I.hok a _ hl
  have d1 := hr.dep
  have len : (PyData.list ds).shown.length ≤ sizeLine := by
    have z := PyData.shown_le 13 (by decide) (PyData.list ds) (by simpa [PyData.leavesShort] using hr.lsh)
    have e : (PyData.list ds).weight = PyData.weightAll ds := by simp only [PyData.weight]
    have w1 := hr.wgt
    refine Nat.le_trans z ?_
    rw [e, sizeLine_eq]
    have : (13 + 2) * PyData.weightAll ds + 13 ≤ (13 + 2) * 2 ^ 19 + 13 := by omega
    exact Nat.le_trans this (by decide)
  exact repr_items ho rfl rfl (hd.items I rv) hr.shw hg (by omega) len (fun h' u tk k => ⟨.str (PyData.list ds).shown, H, I.kept (t' := tk) k, ⟨u, rfl⟩, q⟩)
end Jk

namespace Jk
open PySem PySem.Spec PyProof.Rows L2 Evl
/-! ## sorted(set(xs)), xs a list of ints -/
def hasM (f : Nat → Int) (i : Nat) : Int → Bool := fun k => (firstMet f i).any (· == k)
theorem setR_next {w : World} {h : Heap} {a : Addr} {f : Nat → Int} {i : Nat} (R : SetR w h a (fun j => hasM f i j || decide (j = f i)) (if hasM f i (f i) = true then (firstMet f i).length else (firstMet f i).length + 1)) : SetR w h a (hasM f (i + 1)) (firstMet f (i + 1)).length := by
  have e1 : (firstMet f (i + 1)).length = if hasM f i (f i) = true then (firstMet f i).length else (firstMet f i).length + 1 := by rw [firstMet_succ, step_length]; rfl
  rw [e1]
  exact R.congr fun k => by unfold hasM; rw [firstMet_succ, step_any]
section
variable {prog : Program} {w : World} {A : Around} {E : Value → Shared → Prop}
theorem update_loopR {B : Result → Shared → Prop} {J : Addr} {f1 f2 : List Addr} {Gs : Array GenState → Array GenState → Prop} {many : Nat} {Pv : Nat → Value → Prop} {Sv : Nat → Shared → Prop} (W : WalksS prog w A.in1 J f1 f2 Gs many Pv Sv) {d : Addr} (out : d ∉ f1) {f : Nat → Int} (hf : ∀ i v, Pv i v → ∃ t, v = .int (f i) t) (few : many + 1 < scanBound) :
    ∀ (left i : Nat) (s : Shared), many - i = left → i ≤ many → Sv i s → SetR w s.heap d (hasM f i) (firstMet f i).length →
      (∀ s', Moved (d :: f2) Gs s s' → SetR w s'.heap d (hasM f many) (firstMet f many).length → B (.ok (.ret .none)) s') → codeAny (model prog w) A (.builtin "set.update.loop" ⟨[.ref d, .ref J], []⟩) B s := by
  have out2 : d ∉ f2 := fun z => out (W.sub _ z)
  have inn : ∀ b ∈ f2, b ∈ d :: f2 := fun b z => List.mem_cons_of_mem _ z
  intro left
  induction left with
  | zero =>
    intro i s e le st R q
    obtain rfl : i = many := by omega
    refine codeAny_builtin F.entry_set_update_loop ?_
    rw [Around.under_plainId F.plain_set_update_loop _]
    refine wpAny_bind (m := pyNext (.ref J)) (W.done s _ _ st fun s' mv => ?_)
    show wpAny (model prog w) A.in1 (ret Value.none) _ _ s'
    exact wpAny_pure (q s' (mv.mono inn) (R.at fun o z => mv.heap d o out2 z))
  | succ left ih =>
    intro i s e le st R q
    have lt : i < many := by omega
    refine codeAny_builtin F.entry_set_update_loop ?_
    rw [Around.under_plainId F.plain_set_update_loop _]
    refine wpAny_bind (m := pyNext (.ref J)) (W.item i s _ _ lt st fun v s' pv st' mv => ?_)
    obtain ⟨t, rfl⟩ := hf i v pv
    have R' := R.at (h' := s'.heap) fun o z => mv.heap d o out2 z
    refine wpAny_bind (m := holding [Value.int (f i) t] (setAdd d (.int (f i) t))) (wpAny_holding ?_)
    unfold setAdd
    refine wpAny_holding (wpAny_bind ((intKind prog w).pyHash (k := f i) (intKind_is _ _ _ _) ?_))
    have room : (firstMet f i).length + 1 < scanBound := by have := firstMet_length_le f i; omega
    refine setR_add_hashed (s := { s' with toks := s'.toks + 1 }) R' room fun h' same R2 => ?_
    have R3 := setR_next R2
    refine wpAny_pure ⟨plainId_quiet F.plain_set_update_loop _, ih (i + 1) _ (by omega) lt (W.frame _ s' _ _ st' (Nat.le_succ _) fun b z o y => ?_) R3 fun s2 mv2 R4 => ?_⟩
    · have ne : ¬ b = d := fun y => out (by rw [← y]; exact z)
      rw [same.2 b ne]
      exact y
    · refine q s2 (Moved.trans W.gtrans ((mv.mono inn).then_heap (Nat.le_succ _) fun b o z y => ?_) mv2) R4
      have ne : ¬ b = d := fun y => z (by rw [y]; exact List.mem_cons_self)
      rw [same.2 b ne]
      exact y
def ldO (w : World) : Bool := !w.params.followText "set-order"
def newS (w : World) (h : Heap) : Heap := h.push { cls := .type "set", dict := none, data := .set #[] 0 (.fresh 0 0 (ldO w)) }
theorem set_new_led {s : Shared} (x : Value) {Q1 : Value → Shared → Prop} (q : Q1 (.ref s.heap.objs.size) { s with heap := newS w s.heap }) :
    codeAny (model prog w) A (.call (.builtin "set.__new__") ⟨[.type "set", x], []⟩) (wants Q1 E) s := by
  refine codeAny_of_tree ?_
  refine wpAny_bind (m := checkBuiltinCall "set.__new__" ⟨[.type "set", x], []⟩) (wpAny_of_eq (PySem.F.newCall_set_1 x) (wpAny_pure ⟨plainId_quiet F.plain_set_new _, codeAny_builtin F.entry_set_new ?_⟩))
  rw [Around.under_plainId F.plain_set_new _]
  unfold Builtin.«set.__new__» Builtin.Frozenset.newClass
  have sub := sub_set_self
  obtain ⟨hp, g, d, tk, os⟩ := s
  dsimp only
  wp_walk
  refine wpAny_askSetting (wpAny_pure ?_)
  dsimp only
  simp only [newObj]
  exact wpAny_bind (wpAny_alloc (wpAny_pure (wpAny_pure q)))
set_option maxHeartbeats 8000000 in
theorem set_initR {s : Shared} {l : Addr} {its : Array Value} {ns : List Int} (hh : A.handled = none) (hl : s.heap.IsList l its) (hi : IntsAre its.toList ns) (few : its.size + 1 < scanBound) :
    codeAny (model prog w) A (.call (.builtin "set.__init__") ⟨[.ref s.heap.objs.size, .ref l], []⟩) (wants (fun r s2 => r = .none ∧ ∃ h' tk, s2 = { s with heap := h', toks := tk } ∧ SetR w h' s.heap.objs.size (hasM (fun i => ns.getD i 0) its.size) (firstMet (fun i => ns.getD i 0) its.size).length ∧
      ∀ b o, b < s.heap.objs.size → s.heap.get? b = some o → h'.get? b = some o) E) { s with heap := newS w s.heap } := by
  have at0 : (newS w s.heap).get? s.heap.objs.size = some { cls := .type "set", dict := none, data := .set #[] 0 (.fresh 0 0 (ldO w)) } := Heap.get?_push_size _ rfl
  have ty0 : Shared.TypeIs { s with heap := newS w s.heap } (.ref s.heap.objs.size) "set" := ⟨_, at0, rfl⟩
  have size0 : (newS w s.heap).objs.size = s.heap.objs.size + 1 := Heap.size_push ..
  refine codeAny_call_builtin PySem.F.called_set.init.plain PySem.F.entry_set_init (check_set_init_1 ty0 ?_)
  obtain ⟨ol, hol, hcl, nl, hdl⟩ := hl
  obtain ⟨c1, c2, c3, c4⟩ := ol
  simp only at hcl hdl
  subst hcl hdl
  have hol' : (newS w s.heap).get? l = some { cls := .type "list", dict := c2, data := .seq its nl, slots := c4 } := Heap.get?_push_of_some _ hol
  have y1 := PySem.F.sub_list_set
  have y2 := PySem.F.sub_list_frozenset
  have y3 : (Value.type "list" == Value.type "dict") = false := by decide
  have hl1 : (newS w s.heap).IsList l its := ⟨_, hol', rfl, nl, rfl⟩
  unfold Builtin.«set.__init__» noKeywords Builtin.Frozenset.updateFrom
  generalize kept : pyIter = walked
  wp_walk
  subst kept
  refine wpAny_pyIter_list hl1 (wpAny_bind (wpAny_runValue ?_))
  have lt := Heap.lt_size hol
  have hh3 : A.in1.in1.handled = none := by simp [hh]
  have ne1 : l ≠ (newS w s.heap).objs.size := by rw [size0]; exact Nat.ne_of_lt (Nat.lt_succ_of_lt lt)
  have ne2 : s.heap.objs.size ∉ [(newS w s.heap).objs.size, l] := fun z => by
    rw [size0] at z
    rcases List.mem_cons.mp z with z | z
    · exact Nat.ne_of_lt (Nat.lt_succ_self _) z
    · exact Nat.ne_of_gt lt (List.mem_singleton.mp z)
  refine update_loopR ((Walks.list hh3 _ l ne1 its).toS) ne2 (f := fun i => ns.getD i 0) (fun i v hv => PyProof.Rows.IntsAre.int_at hi i v (by rw [Array.getElem?_toList]; exact hv)) few its.size 0 _ (Nat.sub_zero _) (Nat.zero_le _) ?_ ?_ fun s' mv R => ?_
  · exact ⟨⟨_, Heap.get?_push_size _ rfl, rfl, rfl⟩, hl1.push _⟩
  · exact (setR_fresh (h := s.heap) w).at fun o z => Heap.get?_push_of_some _ z
  · obtain ⟨h', g', d', tk', os'⟩ := s'
    obtain rfl : g' = s.gens := mv.gens
    obtain rfl : d' = s.drawn := mv.drawn
    obtain rfl : os' = s.os := mv.os
    show wpAny (model prog w) _ _ _ _ _
    refine wpAny_pure ?_
    show wpAny (model prog w) _ (ret Value.none) _ _ _
    refine wpAny_pure ⟨rfl, h', tk', rfl, R, fun b o hb z => mv.heap b o ?_ (Heap.get?_push_of_some _ (Heap.get?_push_of_some _ z))⟩
    rw [size0]
    intro y
    rcases List.mem_cons.mp y with y | y
    · exact Nat.ne_of_lt hb y
    · exact Nat.ne_of_lt (Nat.lt_succ_of_lt hb) (List.mem_singleton.mp y)
set_option maxHeartbeats 8000000 in
theorem set_listR {s : Shared} {l : Addr} {its : Array Value} {ns : List Int} {Q : Value → Shared → Prop} (hh : A.handled = none) (hl : s.heap.IsList l its) (hi : IntsAre its.toList ns) (few : its.size + 1 < scanBound)
    (q : ∀ (h' : Heap) (tk : Nat), SetR w h' s.heap.objs.size (hasM (fun i => ns.getD i 0) its.size) (firstMet (fun i => ns.getD i 0) its.size).length → (∀ b o, b < s.heap.objs.size → s.heap.get? b = some o → h'.get? b = some o) → Q (.ref s.heap.objs.size) { s with heap := h', toks := tk }) :
    wpAny (model prog w) A (call (.type "set") [.ref l]) Q E s := by
  obtain ⟨cc, tll, hmro⟩ := PySem.F.called_set.mro
  have mk1 := PySem.F.called_set.made
  have mk2 := PySem.F.called_set.sub
  refine wpAny_call (codeAny_of_tree ?_)
  show wpAny (model prog w) _ (callAny (.type "set") _) _ _ _
  refine wpAny_pure ⟨Code.quiet_builtin _ (by decide +kernel), codeAny_builtin PySem.F.entry_type_call ?_⟩
  rw [Around.under_plain (weight_type_call_type "set" [.ref l] []) rfl]
  have mk3 := PySem.F.called_set.notType
  have mk4 := PySem.F.called_set.canCreate
  have mk5 := PySem.F.typeCall_set_1 (.ref l)
  repeat any_goals (first | assumption | wp_step)
  refine codeAny_mono (set_new_led (.ref l) (E := E) (Q1 := fun x s1 => x = .ref s.heap.objs.size ∧ s1 = { s with heap := newS w s.heap }) ⟨rfl, rfl⟩) fun r s1 hr => ?_
  cases r with
  | error e => exact hr
  | ok fl =>
    cases fl with
    | ret x =>
      obtain ⟨rfl, rfl⟩ := hr
      have at0 : (newS w s.heap).get? s.heap.objs.size = some { cls := .type "set", dict := none, data := .set #[] 0 (.fresh 0 0 (ldO w)) } := Heap.get?_push_size _ rfl
      have ty0 : Shared.TypeIs { s with heap := newS w s.heap } (.ref s.heap.objs.size) "set" := ⟨_, at0, rfl⟩
      have in1 := PySem.F.called_set.init.lookup
      have in2 := PySem.F.called_set.init.bind (.ref s.heap.objs.size)
      repeat any_goals (first | assumption | wp_step)
      refine codeAny_mono (set_initR (E := E) (A := A.in1) (by simpa using hh) hl hi few) fun r2 s2 hr2 => ?_
      cases r2 with
      | error e => exact hr2
      | ok fl2 =>
        cases fl2 with
        | ret r =>
          obtain ⟨rfl, h', tk, rfl, R, kp⟩ := hr2
          repeat any_goals (first | assumption | wp_step)
          exact q _ _ R kp
        | _ => exact hr2.elim
    | _ => exact hr.elim
end
end Jk

namespace Jk
open PySem PySem.Spec PyProof.Rows L2 Evl
theorem lt_uniq : ∀ {l m : List Int}, l.Pairwise (· < ·) → m.Pairwise (· < ·) → (∀ x, x ∈ l ↔ x ∈ m) → l = m
  | [], [], _, _, _ => rfl
  | [], b :: m, _, _, h => by have := (h b).mpr (by simp); cases this
  | a :: l, [], _, _, h => by have := (h a).mp (by simp); cases this
  | a :: l, b :: m, p, q, h => by
    obtain ⟨p1, p2⟩ := List.pairwise_cons.mp p
    obtain ⟨q1, q2⟩ := List.pairwise_cons.mp q
    have e : a = b := by
      rcases List.mem_cons.mp ((h a).mp (by simp)) with z | z
      · exact z
      · rcases List.mem_cons.mp ((h b).mpr (by simp)) with y | y
        · exact y.symm
        · have := q1 a z; have := p1 b y; omega
    subst e
    rw [lt_uniq p2 q2 fun x => ?_]
    constructor
    · intro hx
      rcases List.mem_cons.mp ((h x).mp (List.mem_cons_of_mem _ hx)) with z | z
      · have := p1 x hx; omega
      · exact z
    · intro hx
      rcases List.mem_cons.mp ((h x).mpr (List.mem_cons_of_mem _ hx)) with z | z
      · have := q1 x hx; omega
      · exact z
def jSortSet (ta : TE) : TE := fun σ H Q => ta σ H fun x H1 => ∃ (l : Addr), x = .ref l ∧ ∃ (ns us : List Int), LsI H1 l ns ∧ ns.length ≤ 1000 ∧ us.Pairwise (· < ·) ∧ (∀ x, x ∈ us ↔ x ∈ ns) ∧ us.length < 64 ∧ ∀ p H2, H1 p = none → Ex H1 H2 → LsI H2 p us → Q (.ref p) H2
@[simp] theorem j_sortSet {ta : TE} {σ : L2.St} {H : Hp} {Q : VK} : jSortSet ta σ H Q = ta σ H fun x H1 => ∃ (l : Addr), x = .ref l ∧ ∃ (ns us : List Int), LsI H1 l ns ∧ ns.length ≤ 1000 ∧ us.Pairwise (· < ·) ∧ (∀ x, x ∈ us ↔ x ∈ ns) ∧ us.length < 64 ∧ ∀ p H2, H1 p = none → Ex H1 H2 → LsI H2 p us → Q (.ref p) H2 := rfl
theorem pe_sortSet {X : Cx} {a : Expr} {ta : TE} {p p2 pos pos2 : Pos} (hc : X.calm = true) (g1 : Gl X "sorted") (m1 : X.mg "sorted" = none) (g2 : Gl X "set") (m2 : X.mg "set" = none) (ha : PE X a ta)
    (na : starEach [a] X.env = (false, eval a X.env) :: starEach [] X.env := by rfl) : PE X (.Call (.Name "sorted" p) [.Call (.Name "set" p2) [a] [] pos2] [] pos) (jSortSet ta) := by
  refine ⟨fun pins s σ H Q I h => Call_ (ld_blt I g1 m1 (u := .builtin "sorted") (by decide +kernel) (PyProof.Rows.callWith_builtin1 (PyProof.Rows.args_cons (Call_ (ld_blt I g2 m2 PyProof.Rows.boot_set ?_)) rfl) rfl rfl))⟩
  refine PyProof.Rows.callWith_type1 (PyProof.Rows.args_cons (thn (ha.run pins s σ H _ I h) ?_) na) na rfl
  rintro v s1 ⟨x, H1, I1, r1, l, rfl, ns, us, hq, hlen, und, uin, u64, q1⟩
  refine PyProof.Rows.args_nil ?_
  cases r1
  obtain ⟨its, r, pl, hz⟩ := I1.list (.inl (.inl hq))
  have en : its.toArray.size = ns.length := by simpa using r.length.symm
  refine set_listR (I1.ok.hd hc) pl.isList (ns := ns) (by simpa using r.ints) (by unfold scanBound; omega) fun h2 tk R kp => PyProof.Rows.args_nil ?_
  rw [en] at R
  have J : L2.Inv X pins σ H1 { s1 with heap := h2, toks := tk } := I1.kept fun b o e => kp b o (Heap.lt_size e) e
  have same : (firstMet (fun i => ns.getD i 0) ns.length).length = us.length := same_len (met_nd _ _) (und.imp fun h => by omega) fun x => by rw [met_in, met_list, uin]
  refine sorted_set (s := { s1 with heap := h2, toks := tk }) R (J.ok.hd hc) (by rw [same]; exact u64) fun s2 p out c ms kk gg oo fresh at2 intz inc mem len => ?_
  have eu : ms = us := lt_uniq inc und fun x => by
    rw [mem]
    unfold hasM
    rw [uin, List.any_eq_true]
    constructor
    · rintro ⟨y, hy, e⟩
      rw [← eq_of_beq e]
      rw [met_in, met_list] at hy
      exact hy
    · intro hx
      exact ⟨x, by rw [met_in, met_list]; exact hx, beq_self_eq_true _⟩
  subst eu
  have no : H1 p = none := J.hok.fresh fresh
  have J2 : L2.Inv X pins σ (upd H1 p (.lst (ms.map V.int))) { { s1 with heap := h2, toks := tk } with heap := s2.heap, gens := s2.gens, drawn := s2.drawn, toks := s2.toks } :=
    J.call (ch := []) (Un.laid kk fresh no) (J.hok.laid kk fresh ⟨by rw [List.length_map, sizeLine_eq]; omega, out.toList, c, vals_of_ints intz, at2⟩) (by rw [gg]; exact J.bare) (fun _ z => nomatch z)
  have e2 : s2 = { { s1 with heap := h2, toks := tk } with heap := s2.heap, gens := s2.gens, drawn := s2.drawn, toks := s2.toks } := by
    obtain ⟨a1, a2, a3, a4, a5⟩ := s2
    obtain ⟨b1, b2, b3, b4, b5⟩ := s1
    cases oo
    rfl
  rw [e2]
  exact ⟨.ref p, _, J2, rfl, q1 p _ no (Ex.new no) upd_same⟩
/-! sorted(d), d a dict of ints -/
def jSortedD : List V → Hp → VK → Prop := fun vs H Q => ∃ a, vs = [.ref a] ∧ ∃ (kvs : List (Key × V)) (ks : List Int), H a = some (.dK kvs) ∧ kvs.map (·.1) = ks.map Sum.inl ∧ ks.length < 64 ∧ ∀ p H2, H p = none → Ex H H2 → LsI H2 p (srt ks) → Q (.ref p) H2
theorem call_sortedDJ {X : Cx} (hc : X.calm = true) : CallR X (.builtin "sorted") jSortedD := callBy (call_sortedDI hc) fun vs H Q ⟨a, e, kvs, ks, h, hk, l, q⟩ => ⟨a, kvs, ks, e, .inl h, hk, l, fun ys p h1 h2 h3 => q p _ h3 (Ex.new h3) (by rw [srt_uniq h1 h2] at *; exact upd_same)⟩
@[simp] theorem j_sortedD {a : Addr} {H : Hp} {Q : VK} : jSortedD [.ref a] H Q = ∃ (kvs : List (Key × V)) (ks : List Int), H a = some (.dK kvs) ∧ kvs.map (·.1) = ks.map Sum.inl ∧ ks.length < 64 ∧ ∀ p H2, H p = none → Ex H H2 → LsI H2 p (srt ks) → Q (.ref p) H2 := by simp [jSortedD]
/-! d.clear() -/
def jDClear (to : TE) : TE := fun σ H Q => to σ H fun x H1 => ∃ (a : Addr) (kvs : List (Key × V)), x = .ref a ∧ H1 a = some (.dK kvs) ∧ Q .non (upd H1 a (.dK []))
@[simp] theorem j_dclear {to : TE} {σ : L2.St} {H : Hp} {Q : VK} : jDClear to σ H Q = to σ H fun x H1 => ∃ (a : Addr) (kvs : List (Key × V)), x = .ref a ∧ H1 a = some (.dK kvs) ∧ Q .non (upd H1 a (.dK [])) := rfl
theorem pe_dclearJ {X : Cx} {o : Expr} {to : TE} {apos cpos : Pos} (ho : PE X o to) (h1 : attributeBase o "clear" X.env (eval o X.env) = eval o X.env := by rfl) (h2 : (apos.endLine == cpos.line) = true := by rfl) : PE X (.Call (.Attribute o "clear" apos) [] [] cpos) (jDClear to) :=
  (pe_dclear ho.cl h1 h2).by fun σ H Q q => ⟨_, q, fun x H1 ⟨a, kvs, e, h, q⟩ => ⟨by rw [e]; exact .inr (.inr (.inl ⟨rfl, .inl ⟨kvs, h⟩⟩)), a, kvs, e, rfl, h, q⟩⟩
end Jk

namespace Jk
open PySem L2 Evl
section
variable {X : Cx}
/-- t[lo:hi], t a tuple: t itself where that is all of it -/
def jSlTup : V → Option Int → Option Int → Hp → VK → Prop := fun x lo hi H Q => ∃ a xs, x = .ref a ∧ H a = some (.tup xs) ∧ (∀ i, lo = some i → 0 ≤ i) ∧ (∀ i, hi = some i → 0 ≤ i) ∧
  ∀ p H2, Ex H H2 → H2 p = some (.tup ((hiT xs hi).drop (loN lo))) → Q (.ref p) H2
theorem sl_tupJ : SlR X jSlTup := fun pins s σ H x v vl vu lo hi sl Q I rx hs pl pu ⟨a, xs, e, h, h1, h2, k⟩ => sl_tupA pins s σ H x v vl vu lo hi sl Q I rx hs pl pu ⟨a, xs, e, .inl (.inl h), fun ⟨z1, z2⟩ => k a H (Ex.refl _) (by
    have c := cut_eq xs lo hi h1 h2
    rw [← c, cutV, z1, z2, List.drop_zero, Nat.sub_zero, List.take_length]
    exact h), fun _ p hp => k p _ (Ex.new hp) (by rw [upd_same, cut_eq xs lo hi h1 h2])⟩
@[simp] theorem j_slTup {a : Addr} {lo hi : Option Int} {H : Hp} {Q : VK} : jSlTup (.ref a) lo hi H Q = ∃ xs, H a = some (.tup xs) ∧ (∀ i, lo = some i → 0 ≤ i) ∧ (∀ i, hi = some i → 0 ≤ i) ∧
  ∀ p H2, Ex H H2 → H2 p = some (.tup ((hiT xs hi).drop (loN lo))) → Q (.ref p) H2 := by simp [jSlTup]
@[simp] theorem j_sliceTup {te : TE} {tl th : TO} {σ : L2.St} {H : Hp} {Q : VK} : tSl jSlTup te tl th σ H Q = te σ H fun x H1 => tl σ H1 fun l H2 => th σ H2 fun u H3 => jSlTup x l u H3 Q := rfl
end
end Jk

/-! # NoTree(row): the error that holds a row -/
namespace Jk
open PySem PySem.W PySem.Calls PyProof.Rows PySem.HandSPX
section initText
variable (p1 p2 q1 q2 q3 q4 : Pos)
def ntArgs : Arguments where
  posonlyargs := []
  args := [⟨"self", none, p1⟩, ⟨"row", none, p2⟩]
  vararg := none
  kwonlyargs := []
  kw_defaults := []
  kwarg := none
  defaults := []
def ntBody : List Stmt := [Stmt.Assign [Expr.Attribute (Expr.Name "self" q1) "row" q2] (Expr.Name "row" q3) q4]
end initText
def ntScope : Scope := ⟨.function, [(Str.ofString "self", .local), (Str.ofString "row", .local)], false, false, []⟩
def rowNs (v : Value) : Str → Option Value := fun y => if y = "row" then some v else none
/-- the facts of the class C = NoTree and of its f = __init__ -/
structure NtTxt (K : Frag) (mg : Str → Option Value) (C f : Addr) : Prop where
  glob : mg "NoTree" = some (.ref C)
  text : ∃ (oc cdv ct doc pm : Value) (od an : Option Addr) (osl : Array (Option Value)) (p1 p2 q1 q2 q3 q4 : Pos),
    codeIn K cdv "NoTree.__init__" = true ∧ K.lookup f = some ⟨oc, od, .func (fnOf "__init__" "NoTree.__init__" (ntArgs p1 p2) (ntBody q1 q2 q3 q4) ntScope .none .none doc pm an cdv ct), osl⟩
  shape : ∃ nm q N bs bm sn sub ab col dd k0 k1 k2 k3 k5, refsVE bm = true ∧ K.lookup C = some (excClassObj nm q C N bs bm true sn sub ab col dd k0 k1 k2 k3 k5 "ValueError.__new__")
  setA : findIn K (.ref C) "__setattr__" = some (some (.builtin "object.__setattr__"))
  getA : findIn K (.ref C) "__getattribute__" = some (some (.builtin "BaseException.__getattribute__"))
  gett : findIn K (.ref C) "__getattr__" = some none
  rowA : findIn K (.ref C) "row" = some none
  init : findIn K (.ref C) "__init__" = some (some (.ref f))
  fty : typeIn K (.ref f) = some (.type "function")
  keep : keepIn K (.ref C) = true
  base : subIn K (.ref C) (.type "BaseException") = some true
  cty : typeIn K (.ref C) = some (.type "type")
  hasd : hasDictIn K C = true
  self : exmOne K (.ref C) (.ref C) = some true
theorem nt_of {K : Frag} {mg : Str → Option Value} {C f : Addr} (glob : mg "NoTree" = some (.ref C))
    (text : ∃ (oc cdv ct doc pm : Value) (od an : Option Addr) (osl : Array (Option Value)) (p1 p2 q1 q2 q3 q4 : Pos), codeIn K cdv "NoTree.__init__" = true ∧ K.lookup f = some ⟨oc, od, .func (fnOf "__init__" "NoTree.__init__" (ntArgs p1 p2) (ntBody q1 q2 q3 q4) ntScope .none .none doc pm an cdv ct), osl⟩)
    (shape : ∃ nm q N bs bm sn sub ab col dd k0 k1 k2 k3 k5, refsVE bm = true ∧ K.lookup C = some (excClassObj nm q C N bs bm true sn sub ab col dd k0 k1 k2 k3 k5 "ValueError.__new__"))
    (setA : findIn K (.ref C) "__setattr__" = some (some (.builtin "object.__setattr__"))) (getA : findIn K (.ref C) "__getattribute__" = some (some (.builtin "BaseException.__getattribute__"))) (gett : findIn K (.ref C) "__getattr__" = some none) (rowA : findIn K (.ref C) "row" = some none)
    (init : findIn K (.ref C) "__init__" = some (some (.ref f))) (fty : typeIn K (.ref f) = some (.type "function")) (keep : keepIn K (.ref C) = true) (base : subIn K (.ref C) (.type "BaseException") = some true) (cty : typeIn K (.ref C) = some (.type "type")) (hasd : hasDictIn K C = true) (ss : subIn K (.ref C) (.ref C) = some true) : NtTxt K mg C f :=
  ⟨glob, text, shape, setA, getA, gett, rowA, init, fty, keep, base, cty, hasd, exm_ref base hasd cty ss⟩
/-- the heap h' behind NoTree.__init__ on the bare error at x, whose dict is dx -/
def AfterInit (h h' : Heap) (x C dx t : Addr) (v : Value) : Prop :=
  (h'.get? x = some { cls := .ref C, dict := some dx, data := .fields #[.ref t, .none, .none, .none, .bool false, .none] } ∧ dx ≠ x ∧ h.objs.size ≤ dx) ∧ h'.Ns1 dx (rowNs v) ∧ ∀ b o, h.get? b = some o → b ≠ x → h'.get? b = some o
/-- .. behind NoTree(v), the error at e with its dict d -/
def AfterMake (h h' : Heap) (e C d : Addr) (v : Value) : Prop :=
  (∃ oe vs, (h'.get? e = some oe ∧ oe.cls = .ref C ∧ oe.dict = some d) ∧ oe.data = .fields vs ∧ vs[1]? = some .none) ∧ (d ≠ e ∧ h.objs.size ≤ d ∧ h.objs.size ≤ e) ∧ h'.Ns1 d (rowNs v) ∧ ∀ b o, h.get? b = some o → h'.get? b = some o
section
variable {prog : Program} {w : World} {A : Around} {R : Result → Shared → Prop} {s : Shared} {K : Frag} {mg : Str → Option Value} {C f : Addr}
theorem nt_name {M : Model} {E : Value → Shared → Prop} {st : Shared} {L a : Addr} {cd : Value} {m : Str → Option Value} {x : Str} {pos : Pos} {v : Value} {Q : Value → Shared → Prop} (ns : st.heap.Ns L m) (at' : m x = some v) (q : Q v st)
    (loc : (envOfC "NoTree.__init__" ntScope L a cd).kindOf x = some .local := by rfl) (nd : (x == ("__debug__" : Str)) = false := by decide) : wpAny M A (eval (.Name x pos) (envOfC "NoTree.__init__" ntScope L a cd)) Q E st :=
  wpAny_Name (wpAny_loadName_local rfl loc ns at' q) nd
theorem nt_init (T : NtTxt K mg C f) {x t : Addr} {v : Value} (X : K.In s.heap) (lim : s.heap.NoLimit) (hx : s.heap.get? x = some (excO C t)) (free : K.lookup x = none) (deep : A.depth < recursionLimit)
    (q : ∀ h' tk dx, AfterInit s.heap h' x C dx t v → R (.ok (.ret .none)) { s with heap := h', toks := tk }) : codeAny (model prog w) A (.call (.ref f) ⟨[.ref x, v], []⟩) R s := by
  obtain ⟨oc, cdv, ct, doc, pm, od, an, osl, p1, p2, q1, q2, q3, q4, code, at'⟩ := T.text
  obtain ⟨nm, qn, N, bs, bm, sn, sub, ab, col, dd, k0, k1, k2, k3, k5, vbm, hC⟩ := T.shape
  have cls : clsIn K C = some { name := nm, bases := bs, mro := .ref C :: bm, ns := N, qualname := qn, hasDict := true, slotNames := sn, subclasses := sub, abstract := ab, collection := col, hasDel := false } := by
    unfold clsIn
    rw [hC] <;> rfl
  refine Att.call_fn (binds := [("self", .ref x), ("row", v)]) X lim at' code deep (BindsTo.of_eq (by first | rfl | with_unfolding_all rfl)) (by first | rfl | with_unfolding_all rfl) (fun s1 I => ?_) rfl rfl rfl
  obtain ⟨h1, tk1, rfl⟩ := I.toInCall.same
  have old := I.toInCall.keep
  have nsL := I.toInCall.ns
  have X1 : K.In h1 := X.keeps old
  show wpAny _ _ (execs _ _) _ _ _
  refine wpAny_execs_cons (plainObj_wpAny_Assign_Attribute (nt_name (v := v) nsL (by first | rfl | with_unfolding_all rfl) (nt_name (v := .ref x) nsL (by first | rfl | with_unfolding_all rfl) ?_)))
  refine set_plain X1 (ox := excO C t) (od := none) ⟨old _ _ hx, rfl, rfl, trivial⟩ T.setA (exc_osa X1 (old _ _ hx) cls (show refsVE (.ref C :: bm) = true from vbm) rfl T.rowA fun h3 tk3 dx kp big dne at3 ns3 => ?_)
  have lt : s.heap.objs.size < h1.objs.size := nsL.lt
  show wpAny _ _ (execs _ _) _ _ _
  exact wpAny_execs_nil (q h3 tk3 dx ⟨⟨at3, dne, Nat.le_trans (Nat.le_of_lt lt) big⟩, ns3, fun b o e ne => kp b o ne (old b o e)⟩)
theorem nt_make (T : NtTxt K mg C f) {v : Value} (X : K.In s.heap) (lim : s.heap.NoLimit) (deep : A.depth + 1 < recursionLimit)
    (q : ∀ h' tk e d, AfterMake s.heap h' e C d v → R (.ok (.ret (.ref e))) { s with heap := h', toks := tk }) : codeAny (model prog w) A (.call (.ref C) ⟨[v], []⟩) R s := by
  obtain ⟨nm, qn, N, bs, bm, sn, sub, ab, col, dd, k0, k1, k2, k3, k5, vbm, hC⟩ := T.shape
  obtain ⟨hp, gs, dr, tk, os⟩ := s
  have grow : ∀ b o, hp.get? b = some o → ((hp.push (kdv_tup [v])).push (excO C hp.objs.size)).get? b = some o := fun b o z => Heap.get?_push_of_some _ (Heap.get?_push_of_some _ z)
  have new : ((hp.push (kdv_tup [v])).push (excO C hp.objs.size)).get? (hp.objs.size + 1) = some (excO C hp.objs.size) := by heap_get
  have free : K.lookup (hp.objs.size + 1) = none := by
    rcases z : K.lookup (hp.objs.size + 1) with _ | o
    · rfl
    · have := Heap.lt_size (X _ _ z)
      exact absurd this (by show ¬ hp.objs.size + 1 < hp.objs.size; omega)
  have len : [v].length ≤ sizeLine := by rw [sizeLine_eq]; exact (by decide : 1 ≤ 16777216)
  refine call_own F.excBase_ValueError (fun X' => refsVE_contains X' bm vbm) (X _ _ hC) (looks_findIn X T.init) (fun self => bind_fn X self T.fty) len ?_
  refine nt_init (s := ⟨(hp.push (kdv_tup [v])).push (excO C hp.objs.size), gs, dr, tk, os⟩) T (X.keeps grow) (lim.keeps grow) new free deep fun h' tk' dx I => ?_
  obtain ⟨⟨at3, dne, big⟩, ns, kp⟩ := I
  have big' : hp.objs.size + 1 + 1 ≤ dx := by
    have z := big
    simp only [Heap.size_push] at z
    exact z
  exact ⟨rfl, q h' tk' (hp.objs.size + 1) dx ⟨⟨_, _, ⟨at3, rfl, rfl⟩, rfl, rfl⟩, ⟨dne, by show hp.objs.size ≤ dx; omega, Nat.le_succ _⟩, ns, fun b o z => kp b o (grow b o z) (Nat.ne_of_lt (Nat.lt_succ_of_lt (Heap.lt_size z)))⟩⟩
end
end Jk
namespace Jk
open PySem PySem.Spec PyProof.Rows L2
section
variable {X : Cx} {C f : Addr} {k : Nat}
abbrev rowX (v : V) : List (Str × V) := [(Str.ofString "row", v)]
theorem rowX_get (v : V) : List.lookup (Str.ofString "row") (rowX v) = some v := by simp [rowX, List.lookup]
theorem rowX_rel {v : V} {u : Value} (r : RelV v u) (y : Str) : RelO (List.lookup y (rowX v)) (rowNs u y) := by
  unfold rowNs
  by_cases e : y = "row"
  · subst e
    rw [if_pos rfl, rowX_get]
    exact r
  · rw [if_neg e]
    have b : (y == Str.ofString "row") = false := by simpa using e
    have n : List.lookup y (rowX v) = none := by simp [rowX, List.lookup, b]
    rw [n]
    exact True.intro
/-- NoTree(e) is made: d, new, is its dict -/
def jMakeNt (C : Addr) (ta : TA) : L2.St → Hp → XK → Prop := fun σ H Q => ta σ H fun vs H1 => ∃ v, vs = [v] ∧ ∀ d, H1 d = none → Q (.ref C) (some d) (upd H1 d (.xd (rowX v)))
theorem pmk_nt {a : Expr} {ta : TA} {p pos : Pos} (T : NtTxt X.K X.mg C f) (hr : Room k X.A) (ha : PA X [a] ta) (hg : Gl X "NoTree" := by rfl) (h1 : starEach [a] X.env = (false, eval a X.env) :: starEach [] X.env := by rfl)
    (h2 : (backTo pos (starEach [] X.env)).any (·.1) = false := by rfl) : PMk X (.Call (.Name "NoTree" p) [a] [] pos) (jMakeNt C ta) := by
  intro pins s σ H Q I q
  refine wpAny_Call_Name_kw (ld_glob I hg T.glob (PySem.W.callWith_K (h₀ := X.base) I.ok.mod.kin T.keep (thn (ha.run pos pins s σ H _ I q) ?_) h1 h2))
  rintro us s1 ⟨vs, H1, I1, r1, v, rfl, q1⟩
  refine ⟨I1.kIn, ?_⟩
  cases r1 with
  | cons rv rn =>
    rename_i u us'
    cases rn
    have lim := I1.nolimit
    obtain ⟨hp, gs, dr, tk, os⟩ := s1
    show wpAny _ _ (call (.ref C) [u]) _ _ _
    refine wpAny_call (nt_make T I1.kIn lim (by have := hr.dp; omega) fun h' tk' e d M => ?_)
    show MkP X pins σ Q (.ref e) ⟨h', gs, dr, tk', os⟩
    obtain ⟨⟨oe, fv, ⟨hoe, hc, hd⟩, hdat, hz⟩, ⟨dne, dbig, ebig⟩, ns, kp⟩ := M
    obtain ⟨G, g1, g2⟩ := restrict h' fun b => decide (b ≠ e)
    have off : ∀ b, b ≠ e → G.get? b = h'.get? b := fun b hb => g1 b (decide_eq_true hb)
    have out : G.get? e = none := g2 e (by simp)
    have was : ∀ b o, hp.get? b = some o → G.get? b = some o := fun b o z => (off b (Nat.ne_of_lt (Nat.lt_of_lt_of_le (Heap.lt_size z) ebig))).trans (kp b o z)
    have ok : ObjOk X.prog X.w (upd H1 d (.xd (rowX v))) G d (.xd (rowX v)) := ⟨_, ns.at (fun o z => (off d dne).trans z), fun y => rowX_rel rv y⟩
    have J : L2.Inv X pins σ (upd H1 d (.xd (rowX v))) ⟨G, gs, dr, tk', os⟩ := I1.laid (t' := tk') was dbig ok
    refine ⟨e, oe, fv, ⟨G, gs, dr, tk', os⟩, _, .ref C, some d, rfl, J, fun b o z => ?_, out, hoe, ⟨hc, hd⟩, hdat, hz, ?_, rfl, I1.bare, raises_own T.base T.cty, q1 d (I1.hok.fresh dbig)⟩
    · by_cases c : b = e
      · have z' : G.get? b = some o := z
        rw [c, out] at z'
        cases z'
      · exact (off b c).symm.trans z
    · rw [upd_ne (Ne.symm dne)]
      exact I1.hok.fresh ebig
def jRaiseNt (C : Addr) (W : WX) (ta : TA) : TS := fun _ σ H => jMakeNt C ta σ H fun cls d H' => W cls d σ H'
@[simp] theorem j_raiseNt {W : WX} {ta : TA} {D : Ends} {σ : L2.St} {H : Hp} : jRaiseNt C W ta D σ H = ta σ H fun vs H1 => ∃ v, vs = [v] ∧ ∀ d, H1 d = none → W (.ref C) (some d) σ (upd H1 d (.xd (rowX v))) := rfl
/-- raise NoTree(e) -/
theorem ps_raiseNt {a : Expr} {ta : TA} {W : WX} {p pos pos2 : Pos} (hc : X.calm = true) (T : NtTxt X.K X.mg C f) (hr : Room k X.A) (tk : Takes X W) (ha : PA X [a] ta) (hg : Gl X "NoTree" := by rfl) (h1 : starEach [a] X.env = (false, eval a X.env) :: starEach [] X.env := by rfl)
    (h2 : (backTo pos (starEach [] X.env)).any (·.1) = false := by rfl) : PS X (.Raise (some (.Call (.Name "NoTree" p) [a] [] pos)) none pos2) (jRaiseNt C W ta) := ps_raise hc tk (pmk_nt T hr ha hg h1 h2)
end
end Jk
namespace Jk
open PySem L2 Evl
section
variable {X : Cx} {C f : Addr}
/-! such an error that is kept in a name -/
/-- it stands in the heap, with its dict at d and the fields fs there -/
def KeptX (H : Hp) (a D d : Addr) (fs : List (Str × V)) : Prop := H a = some (ExK (.ref D) (some d) a) ∧ H d = some (.xd fs)
theorem KeptX.up {H H' : Hp} {a D d : Addr} {fs : List (Str × V)} (h : KeptX H a D d fs) (e : Ex H H') : KeptX H' a D d fs := ⟨e _ _ h.1, e _ _ h.2⟩
theorem KeptX.inst {pins : List (Addr × Obj)} {s : Shared} {σ : L2.St} {H : Hp} {a D d : Addr} {fs : List (Str × V)} (I : L2.Inv X pins σ H s) (h : KeptX H a D d fs) :
    ∃ (ob od : Obj) (mA : Str → Option Value), PySem.W.InstAt s.heap a ob D (some od) ∧ (∀ y, PySem.W.lookIn y od = some (mA y)) ∧ ∀ y, RelO (fs.lookup y) (mA y) := by
  obtain ⟨⟨ob, fv, at', ⟨hc, hd⟩, dat⟩, _⟩ := I.hok a _ h.1
  have hx : ObjOk X.prog X.w H s.heap d (.xd fs) := I.hok d _ h.2
  obtain ⟨mA, ns, rel⟩ := hx
  obtain ⟨od, ho, look⟩ := lookIn_ns ns
  exact ⟨ob, od, mA, ⟨at', hc, by unfold PySem.W.notCls; rw [dat] <;> rfl, by rw [hd]; exact ho⟩, look, rel⟩
/-- e.n, e such an error -/
def jXfld (K : PySem.W.Frag) (n : Str) (te : TE) : TE := fun σ H Q => te σ H fun x H1 => ∃ a, x = .ref a ∧ ∃ (D d : Addr) (fs : List (Str × V)) (v : V), KeptX H1 a D d fs ∧ XfC K D ∧ PySem.W.findIn K (.ref D) n = some none ∧ fs.lookup n = some v ∧ Q v H1
@[simp] theorem j_xfld {K : PySem.W.Frag} {n : Str} {te : TE} {σ : L2.St} {H : Hp} {Q : VK} : jXfld K n te σ H Q = te σ H fun x H1 => ∃ a, x = .ref a ∧ ∃ (D d : Addr) (fs : List (Str × V)) (v : V), KeptX H1 a D d fs ∧ XfC K D ∧ PySem.W.findIn K (.ref D) n = some none ∧ fs.lookup n = some v ∧ Q v H1 := rfl
theorem pe_xfld {K0 : PySem.W.Frag} {e : Expr} {te : TE} {pos : Pos} {n : Str} (he : PE X e te) (hK : X.K = K0 := by rfl) (hb : attributeBase e n X.env (eval e X.env) = eval e X.env := by rfl) : PE X (.Attribute e n pos) (jXfld K0 n te) := by
  subst hK
  refine ⟨fun pins s σ H Q I q => attr_of hb (thn (he.run pins s σ H _ I q) ?_)⟩
  rintro u s1 ⟨x, H1, I1, r, a, rfl, D, d, fs, v, kx, T, hn, hl, q1⟩
  cases r
  obtain ⟨ob, od, mA, J, look, rel⟩ := kx.inst I1
  have rv := rel n
  rw [hl] at rv
  obtain ⟨u, hu, ru⟩ := RelO.some_of rv
  exact HandSPX.exc_get I1.kIn J T.ga T.gg T.exC (PySem.W.findObj_own T.hdC hn rfl (by rw [look, hu])) (handed_of ru) ⟨v, H1, I1.tok _, ru, q1⟩
/-- isinstance(e, c), e an error that is kept, with a dict of its own or without -/
def jIsXO (K : PySem.W.Frag) : List V → Hp → VK → Prop := fun xs H Q => rIsX K xs H Q ∨ ∃ (a D d : Addr) (fs : List (Str × V)) (c : V) (cv : Value) (b : Bool), xs = [.ref a, c] ∧ KeptX H a D d fs ∧ ExcC K D ∧ ClsV c cv ∧ PySem.W.kitOne K (.ref D) cv = some b ∧ Q (.bl b) H
theorem call_isXO {K0 : PySem.W.Frag} (hK : X.K = K0 := by rfl) : CallR X (.builtin "isinstance") (jIsXO K0) := by
  subst hK
  intro pins s σ H xs us Q I r h
  rcases h with h | ⟨a, D, d, fs, c, cv, b, rfl, kx, E, hcv, e, q⟩
  · exact call_isX pins s σ H xs us Q I r h
  · obtain ⟨u1, u2, rfl, r1, r2⟩ := vals2 r
    have e2 := hcv.eq r2
    subst e2
    cases r1
    obtain ⟨ob, od, mA, J, _, _⟩ := kx.inst I
    exact PySem.W.kia_one (PySem.W.kitx_exc (od := some od) (by obtain ⟨cd, hc, _⟩ := PySem.W.any_some E.hd; rw [hc]; rfl) E.hg E.hk E.hs E.ha E.hn E.ht E.hm) I.kIn J e (fun z => nomatch z) fun tk => ⟨.bl b, H, I.kept (t' := tk) fun _ _ z => z, rfl, q⟩
end
end Jk

namespace Jk
open PySem PySem.Spec PyProof.Rows L2 Evl
theorem refs_erase (ts : List Addr) : ∀ j : Nat, (ts.map V.ref).eraseIdx j = (ts.eraseIdx j).map V.ref := by
  induction ts with
  | nil => intro j; simp
  | cons t ts ih =>
    intro j
    cases j with
    | zero => simp
    | succ j => simp [ih j]
/-! l.remove(p), l a list of pairs: the first that is p -/
def jRemoveP : V → List V → Hp → VK → Prop := fun x vs H Q => ∃ l t, x = .ref l ∧ vs = [.ref t] ∧ ∃ (ts : List Addr) (prs : List (Int × Int)) (p : Int × Int) (j : Nat), H l = some (.lst (ts.map V.ref)) ∧ TupsAt H ts prs ∧ H t = some (.tup [.int p.1, .int p.2]) ∧ prs[j]? = some p ∧ (∀ m, m < j → prs[m]? ≠ some p) ∧
  Q .non (upd H l (.lst ((ts.eraseIdx j).map V.ref)))
@[simp] theorem j_removeP {l t : Addr} {H : Hp} {Q : VK} : jRemoveP (.ref l) [.ref t] H Q = ∃ (ts : List Addr) (prs : List (Int × Int)) (p : Int × Int) (j : Nat), H l = some (.lst (ts.map V.ref)) ∧ TupsAt H ts prs ∧ H t = some (.tup [.int p.1, .int p.2]) ∧ prs[j]? = some p ∧ (∀ m, m < j → prs[m]? ≠ some p) ∧
  Q .non (upd H l (.lst ((ts.eraseIdx j).map V.ref))) := by simp [jRemoveP]
theorem mt_removeP {X : Cx} (hu : X.A.units + 65 < cLine) : MtR X "list.remove" jRemoveP := by
  intro pins s σ H x xs v us Q I rx rxs h
  obtain ⟨l, t, rfl, rfl, ts, prs, p, j, hl, ht, hp, hj, first, q⟩ := h
  cases rx
  cases rxs with
  | cons ry rt =>
    rename_i uy ut
    cases rt
    obtain ⟨bs, rp⟩ := Dp.reads I (pd p) (.ref t) uy (dpP hp) ry
    obtain ⟨z, its, n, r, hlen, e0⟩ := I.lstM hl
    obtain ⟨as, rl⟩ := Dp.readsAll I (prs.map pd) _ its (dpPs ht) r
    have can := pds_can prs
    have shp := pd_shaped p
    have room : X.A.units + 1 + min (PyData.depthAll (prs.map pd)) (pd p).depth < cLine := room_in_shaped shp hu
    have same : its.map (SeqAt.readOf s.heap) = prs.map pd := SeqAt.readsAll_map _ its as can rl
    have ln : its.length = prs.length := by have := congrArg List.length same; simpa using this
    have jl : j < its.length := by have := lt_of_get hj; omega
    have at' : ∀ (m : Nat) (hm : m < its.length) (y : Int × Int), prs[m]? = some y → SeqAt.readOf s.heap its[m] = pd y := fun m hm y hy => by
      have e := congrArg (·[m]?) same
      simp only [List.getElem?_map, hy, List.getElem?_eq_getElem hm, Option.map_some] at e
      exact Option.some.inj e
    have sz : its.toArray.size ≤ sizeLine := by rw [List.size_toArray, ← hlen]; exact z
    refine call_meets PySem.F.slot_list_remove ⟨_, e0, rfl⟩ PySem.F.entry_list_remove (PySem.F.args_list_remove_2 _ _)
      (SeqAt.list_removeAt l its.toArray n none #[] uy (fun u => PyData.eqv (SeqAt.readOf s.heap u) (pd p)) j (by rw [List.size_toArray]; exact jl) ?hit (fun m hm lt => ?no) sz) ⟨e0, SeqAt.items_eqAt (vs := its.toArray) (by simpa using rl) rp can (SeqAt.canLay_of_shaped shp) room, ?_⟩
    case hit =>
      show PyData.eqv (SeqAt.readOf s.heap its[j]) (pd p) = true
      rw [at' j jl p hj, pd_eqv, decide_eq_true rfl]
    case no =>
      have hm' : m < its.length := by rw [List.size_toArray] at hm; exact hm
      have g : prs[m]? = some (prs[m]'(by omega)) := List.getElem?_eq_getElem _
      show PyData.eqv (SeqAt.readOf s.heap its[m]) (pd p) = false
      rw [at' m hm' _ g, pd_eqv, decide_eq_false]
      intro e
      exact first m lt (by rw [g, e])
    have r2 : Vals ((ts.eraseIdx j).map V.ref) (its.eraseIdx j) := by
      have w := r.eraseIdx j
      have e : (ts.map V.ref).eraseIdx j = (ts.eraseIdx j).map V.ref := refs_erase ts j
      rw [e] at w
      exact w
    refine ⟨.non, _, I.lset (its' := its.eraseIdx j) hl e0 ?_ r2 ?_, rfl, q⟩
    · show its.toArray.eraseIdxIfInBounds j = (its.eraseIdx j).toArray
      rw [List.eraseIdxIfInBounds_toArray]
    · rw [List.length_map]
      have := List.length_eraseIdx_le ts j
      rw [List.length_map] at z
      omega
end Jk

namespace Jk
open PySem PySem.Spec PyProof.Rows L2 Evl
/-! min(t), max(t), t a tuple of ints: one of them -/
def jOneT : List V → Hp → VK → Prop := fun vs H Q => ∃ a, vs = [.ref a] ∧ ∃ ns : List Int, H a = some (.tup (ns.map V.int)) ∧ ns ≠ [] ∧ ns.length ≤ 1000 ∧ ∀ m ∈ ns, Q (.int m) H
@[simp] theorem j_oneT {a : Addr} {H : Hp} {Q : VK} : jOneT [.ref a] H Q = ∃ ns : List Int, H a = some (.tup (ns.map V.int)) ∧ ns ≠ [] ∧ ns.length ≤ 1000 ∧ ∀ m ∈ ns, Q (.int m) H := by simp [jOneT]
theorem vals_int : ∀ {ns : List Int} {its : List Value}, Vals (ns.map V.int) its → ∀ v ∈ its, ∃ m ∈ ns, RelV (.int m) v
  | [], _, r, v, hv => by cases r; cases hv
  | n :: ns, _, r, v, hv => by
    rw [List.map_cons] at r
    cases r with
    | cons a b =>
      rcases List.mem_cons.mp hv with e | e
      · exact ⟨n, by simp, e ▸ a⟩
      · obtain ⟨m, hm, q⟩ := vals_int b v e
        exact ⟨m, by simp [hm], q⟩
theorem depth_ints : ∀ ns : List Int, PyData.depthAll (ns.map PyData.int) = 0
  | [] => rfl
  | n :: ns => by rw [List.map_cons, PyData.depthAll, depth_ints ns]; rfl
theorem call_minT {X : Cx} (hc : X.calm = true) (hu : X.A.units + 65 < cLine) : CallR X (.builtin "min") jOneT := by
  intro pins s σ H xs us Q I r h
  obtain ⟨a, rfl, ns, ha, ne, few, q⟩ := h
  obtain ⟨its, rv, ht, hz⟩ := I.tuple (.inl (.inl ha))
  rw [Vals.ref1 r]
  obtain ⟨as, h4⟩ := Dp.readsAll I (ns.map PyData.int) _ its (dpIs ns) rv
  have go : ∀ (i : Nat) (v : Value), its.toArray[i]? = some v → ∃ m ∈ ns, RelV (.int m) v := fun i v hv => by
    have hv' : its[i]? = some v := by simpa using hv
    exact vals_int rv v (List.mem_of_getElem? hv')
  obtain ⟨x, l, rfl⟩ := List.exists_cons_of_ne_nil ne
  refine PySem.W.min_tuple_data (x := .int x) (xs := l.map PyData.int) (I.ok.hd hc) ht (by simpa using h4) ?_ (by rw [show PyData.int x :: l.map PyData.int = (x :: l).map PyData.int from rfl, depth_ints]; omega) fun i v h' tk bs hv _ hk => ?_
  · rw [show PyData.int x :: l.map PyData.int = (x :: l).map PyData.int from rfl]
    refine ⟨fun y hy z hz => ?_, fun y hy => ?_⟩
    · obtain ⟨a1, _, rfl⟩ := List.mem_map.mp hy
      obtain ⟨a2, _, rfl⟩ := List.mem_map.mp hz
      rfl
    · obtain ⟨a1, _, rfl⟩ := List.mem_map.mp hy
      intro e
      cases e
  · obtain ⟨m, hm, rel⟩ := go i v hv
    exact ⟨.int m, H, I.kept hk, rel, q m hm⟩
theorem call_maxT {X : Cx} (hc : X.calm = true) (hu : X.A.units + 65 < cLine) : CallR X (.builtin "max") jOneT := by
  intro pins s σ H xs us Q I r h
  obtain ⟨a, rfl, ns, ha, ne, few, q⟩ := h
  obtain ⟨its, rv, ht, hz⟩ := I.tuple (.inl (.inl ha))
  rw [Vals.ref1 r]
  obtain ⟨as, h4⟩ := Dp.readsAll I (ns.map PyData.int) _ its (dpIs ns) rv
  have go : ∀ (i : Nat) (v : Value), its.toArray[i]? = some v → ∃ m ∈ ns, RelV (.int m) v := fun i v hv => by
    have hv' : its[i]? = some v := by simpa using hv
    exact vals_int rv v (List.mem_of_getElem? hv')
  obtain ⟨x, l, rfl⟩ := List.exists_cons_of_ne_nil ne
  refine PySem.W.max_tuple_data (x := .int x) (xs := l.map PyData.int) (I.ok.hd hc) ht (by simpa using h4) ?_ (by rw [show PyData.int x :: l.map PyData.int = (x :: l).map PyData.int from rfl, depth_ints]; omega) fun i v h' tk bs hv _ hk => ?_
  · rw [show PyData.int x :: l.map PyData.int = (x :: l).map PyData.int from rfl]
    refine ⟨fun y hy z hz => ?_, fun y hy => ?_⟩
    · obtain ⟨a1, _, rfl⟩ := List.mem_map.mp hy
      obtain ⟨a2, _, rfl⟩ := List.mem_map.mp hz
      rfl
    · obtain ⟨a1, _, rfl⟩ := List.mem_map.mp hy
      intro e
      cases e
  · obtain ⟨m, hm, rel⟩ := go i v hv
    exact ⟨.int m, H, I.kept hk, rel, q m hm⟩
/-! len(set(t)), t a tuple of ints that differ -/
def jLenSetT (ta : TE) : TE := fun σ H Q => ta σ H fun x H1 => ∃ a, x = .ref a ∧ ∃ ns : List Int, H1 a = some (.tup (ns.map V.int)) ∧ ns.Nodup ∧ ns.length ≤ 1000 ∧ Q (.int (ns.length : Int)) H1
@[simp] theorem j_lenSetT {ta : TE} {σ : L2.St} {H : Hp} {Q : VK} : jLenSetT ta σ H Q = ta σ H fun x H1 => ∃ a, x = .ref a ∧ ∃ ns : List Int, H1 a = some (.tup (ns.map V.int)) ∧ ns.Nodup ∧ ns.length ≤ 1000 ∧ Q (.int (ns.length : Int)) H1 := rfl
theorem pe_lenSetT {X : Cx} {a : Expr} {ta : TE} {p p2 pos pos2 : Pos} (hc : X.calm = true) (g1 : Gl X "len") (m1 : X.mg "len" = none) (g2 : Gl X "set") (m2 : X.mg "set" = none) (ha : PE X a ta) (na : starEach [a] X.env = (false, eval a X.env) :: starEach [] X.env := by rfl) :
    PE X (.Call (.Name "len" p) [.Call (.Name "set" p2) [a] [] pos2] [] pos) (jLenSetT ta) := by
  refine ⟨fun pins s σ H Q I h => Call_ (ld_blt I g1 m1 PySem.boot_len (PyProof.Rows.callWith_builtin1 (PyProof.Rows.args_cons (Call_ (ld_blt I g2 m2 PyProof.Rows.boot_set ?_)) rfl) rfl rfl))⟩
  refine PyProof.Rows.callWith_type1 (PyProof.Rows.args_cons (thn (ha.run pins s σ H _ I h) ?_) na) na rfl
  rintro v s1 ⟨x, H1, I1, r1, l, rfl, ns, hq, nd, few, q1⟩
  refine PyProof.Rows.args_nil ?_
  cases r1
  obtain ⟨its, r, tp, hz⟩ := I1.tuple (.inl (.inl hq))
  refine call_set_tupI (I1.ok.hd hc) tp (ns := ns) (by simpa using r.ints) (by unfold scanBound; omega) fun h2 tk c R hcn hk => PyProof.Rows.args_nil ?_
  obtain ⟨o, es, ep, t, ho, hex, hd, good, knd, kin, _, fits, _⟩ := R
  have J : Inv X pins σ H1 { s1 with heap := h2, toks := tk } := I1.kept fun b o e => hk b o e
  have cn : es.size = ns.length := by
    have := same_len knd nd fun k => by rw [← kin]; simp
    simpa using this
  exact call_len_set ho hex hd fits (by rw [cn]; omega) ⟨.int ns.length, H1, J.tok _, ⟨_, by rw [cn]⟩, q1⟩
end Jk

namespace Jk
open PySem PySem.Spec PyProof.Rows HT L2 Evl

/-! ## t[::-1], t a tuple -/
section
variable {prog : Program} {w : World} {A : Around} {E : Value → Shared → Prop} {s : Shared}
theorem adjust_back (n : Nat) : Builtin.Slice.sliceAdjust none none (-1) (n : Int) = ((n : Int) - 1, -1) := by
  unfold Builtin.Slice.sliceAdjust
  have h1 : ((-1 : Int) < 0) := by omega
  simp only [h1, if_true]
theorem places_back (n : Nat) : Builtin.Slice.slicePlaces ((n : Int) - 1) (-1) (-1) = n := by
  unfold Builtin.Slice.slicePlaces
  have h1 : ¬ ((-1 : Int) > 0) := by omega
  simp only [h1, if_false]
  have e : (-(-1) : Int) = 1 := by omega
  rw [e, Int.ediv_one]
  split <;> omega
theorem range_getD {α : Type} (l : List α) (d : α) : (List.range l.length).map (fun i => l.getD i d) = l := by
  apply List.ext_getElem?
  intro i
  rw [List.getElem?_map]
  rcases Nat.lt_or_ge i l.length with z | z
  · rw [List.getElem?_range z, List.getElem?_eq_getElem z]
    simp [List.getD_eq_getElem?_getD, z]
  · rw [List.getElem?_eq_none (by simpa using z), List.getElem?_eq_none z]
    rfl
theorem fm_some {α β : Type} {f : α → Option β} {g : α → β} : ∀ l : List α, (∀ x ∈ l, f x = some (g x)) → l.filterMap f = l.map g
  | [], _ => rfl
  | x :: l, h => by
    rw [List.filterMap_cons, h x (List.mem_cons_self ..), List.map_cons]
    show g x :: l.filterMap f = _
    rw [fm_some l fun y hy => h y (List.mem_cons_of_mem _ hy)]
theorem pick_back (xs : Array Value) : ((List.range xs.size).filterMap fun (k : Nat) => xs[(((xs.size : Int) - 1) + (k : Int) * (-1)).toNat]?).toArray = xs.toList.reverse.toArray := by
  have e : ∀ k ∈ List.range xs.size, xs[(((xs.size : Int) - 1) + (k : Int) * (-1)).toNat]? = some (xs.toList.reverse.getD k .none) := fun k hk => by
    have lt := List.mem_range.mp hk
    have i1 : (((xs.size : Int) - 1) + (k : Int) * (-1)).toNat = xs.size - 1 - k := by omega
    rw [i1, List.getD_eq_getElem?_getD, List.getElem?_reverse (by rw [Array.length_toList]; exact lt), Array.length_toList, Array.getElem?_toList]
    have : xs.size - 1 - k < xs.size := by omega
    rw [Array.getElem?_eq_getElem this]
    rfl
  rw [fm_some _ e]
  have r := range_getD xs.toList.reverse Value.none
  rw [List.length_reverse, Array.length_toList] at r
  rw [r]
theorem applied_back {sl : Addr} {n : Nat} {u : Tok} {Q : Int × Int × Nat → Shared → Prop} (hs : s.heap.IsSliceOf sl .none .none (.int (-1) u)) (h : Q ((n : Int) - 1, -1, n) s) :
    wpAny (model prog w) A (Builtin.Slice.sliceApplied (.ref sl) (pure (n : Int))) Q E s := by
  obtain ⟨os, hos, hcs, hds⟩ := id hs
  unfold Builtin.Slice.sliceApplied Builtin.Slice.sliceFields
  refine wpAny_bind (wpAny_bind (wpAny_field hos hds (x := .none) rfl (wpAny_bind (wpAny_field hos hds (x := .none) rfl (wpAny_bind (wpAny_field hos hds (x := .int (-1) u) rfl (wpAny_pure ?_)))))))
  refine wpAny_bind (slicePart_int ?_)
  show wpAny _ _ (if ((-1 : Int) == 0) = true then _ else _) _ _ s
  rw [if_neg (by decide)]
  refine wpAny_bind (slicePart_none (wpAny_bind (slicePart_none (wpAny_bind (wpAny_pure ?_)))))
  show wpAny _ _ (match Builtin.Slice.sliceAdjust none none (-1) (n : Int) with | (lo, hi) => pure (lo, (-1 : Int), Builtin.Slice.slicePlaces lo hi (-1))) _ _ s
  rw [adjust_back n]
  show wpAny _ _ (pure (((n : Int) - 1), (-1 : Int), Builtin.Slice.slicePlaces ((n : Int) - 1) (-1) (-1))) _ _ s
  rw [places_back n]
  exact wpAny_pure h
theorem tuple_back {t sl : Addr} {items : Array Value} {u : Tok} {Q : Value → Shared → Prop} (ht : IsTup s.heap t items) (hs : s.heap.IsSliceOf sl .none .none (.int (-1) u))
    (h : Q (.ref s.heap.objs.size) { s with heap := s.heap.push { cls := .type "tuple", data := .seq items.toList.reverse.toArray } })
    (hsz : items.size ≤ sizeLine) : wpAny (model prog w) A (getItem (.ref t) (.ref sl)) Q E s := by
  have hrev : sizeOk (.seq items.toList.reverse.toArray) := by
    show items.toList.reverse.toArray.size ≤ sizeLine
    rw [List.size_toArray, List.length_reverse, Array.length_toList]
    exact hsz
  obtain ⟨os, hos, hcs, hds⟩ := id hs
  have hTs : s.TypeIs (.ref sl) "slice" := ⟨os, hos, hcs⟩
  unfold getItem
  try with_reducible refine wpAny_holding ?_
  first | refine wpAny_bind (wpAny_pure ?_) | skip
  refine wpAny_bind (wpAny_sequenceKey ht.typeIs (by decide) ?_)
  refine wpAny_bind (wpAny_callSpecial?_slot (name := Str.ofString "__getitem__") ht.typeIs PyProof.Rows.slot_tuple_getitem
    (wpAny_call_entry PyProof.Rows.slot_tuple_getitem ht.typeIs entry_tuple_getitem ?_ (args_tuple_getitem _ _)))
  show wpAny _ _ (Builtin.Tuple.tupleItemsOf (.ref t) >>= _) _ _ s
  refine wpAny_bind (tupleItemsOf_ ht ?_)
  refine wpAny_bind (wpAny_typeOf hTs ?_)
  rw [if_pos (by decide)]
  refine wpAny_bind (applied_back hs ?_)
  have hno : ¬ ((((items.size : Int) - 1) == 0 && (-1 : Int) == 1 && items.size == items.size) = true) := by
    have : ((-1 : Int) == 1) = false := by decide
    rw [this]; simp
  show wpAny _ _ (if (((items.size : Int) - 1) == 0 && (-1 : Int) == 1 && items.size == items.size) = true then _ else _) _ _ s
  rw [if_neg hno, pick_back items]
  first
    | exact wpAny_bind (m := Builtin.Tuple.tupleExact _) (wpAny_newObj_type (wpAny_pure ⟨_, rfl, wpAny_pure h⟩) hrev)
    | exact wpAny_bind (m := Builtin.Tuple.tupleExact _) (wpAny_newObj_type (wpAny_bind (wpAny_pure (wpAny_pure ⟨_, rfl, wpAny_pure h⟩))) hrev)
    | exact wpAny_bind (wpAny_bind (m := Builtin.Tuple.tupleExact _) (wpAny_newObj_type (wpAny_pure (wpAny_pure ⟨_, rfl, wpAny_pure h⟩)) hrev))
    | exact wpAny_bind (wpAny_bind (m := Builtin.Tuple.tupleExact _) (wpAny_newObj_type (wpAny_pure ⟨_, rfl, wpAny_pure h⟩) hrev))
end
section
variable {X : Cx}
def jRevT (K : PySem.W.Frag) (te : TE) (ts : TO) : TE := fun σ H Q => te σ H fun x H1 => ts σ H1 fun o H2 => o = some (-1) ∧ ∃ a xs, x = .ref a ∧ SqT K H2 a xs ∧ ∀ p H3, H2 p = none → Ex H2 H3 → H3 p = some (.tup xs.reverse) → Q (.ref p) H3
@[simp] theorem j_revT {K : PySem.W.Frag} {te : TE} {ts : TO} {σ : L2.St} {H : Hp} {Q : VK} : jRevT K te ts σ H Q = te σ H fun x H1 => ts σ H1 fun o H2 => o = some (-1) ∧ ∃ a xs, x = .ref a ∧ SqT K H2 a xs ∧ ∀ p H3, H2 p = none → Ex H2 H3 → H3 p = some (.tup xs.reverse) → Q (.ref p) H3 := rfl
theorem pe_sliceRevT {K0 : PySem.W.Frag} {e st : Expr} {te : TE} {ts : TO} {p2 pos : Pos} (he : PE X e te) (hst : PO X (some st) ts) (hK : X.K = K0 := by rfl) : PE X (.Subscript e (.Slice none none (some st) p2) pos) (jRevT K0 te ts) := by
  subst hK
  refine ⟨fun pins s σ H Q I h => ?_⟩
  refine Subscript_ (thn (he.run pins s σ H _ I h) fun v s1 ⟨x, H1, I1, r1, q1⟩ => ?_)
  refine wpAny_Slice (thn ((po_none (X := X)).run pins s1 σ H1 (fun o H2 => o = none ∧ H2 = H1) I1 ⟨rfl, rfl⟩) fun vl s2 ⟨l, H2, I2, pl, el, eh⟩ => thn ((po_none (X := X)).run pins s2 σ H2 (fun o H3 => o = none ∧ H3 = H2) I2 ⟨rfl, rfl⟩) fun vu s3 ⟨u, H3, I3, pu, eu, eh2⟩ => ?_)
  subst el eu eh eh2
  refine thn (hst.run pins s3 σ H3 _ I3 q1) fun vk s4 ⟨k, H4, I4, pk, q4⟩ => ?_
  obtain ⟨ek, a, xs, ex, hx, q⟩ := q4
  subst ek ex
  obtain rfl : v = Value.ref a := r1
  cases pl
  cases pu
  cases pk with
  | int i u =>
    have I5 : L2.Inv X pins σ H4 { s4 with heap := s4.heap.push { cls := .type "slice", data := .fields #[.none, .none, .int (-1) u] } } := I4.kept (t' := s4.toks) fun b ob q => Heap.get?_push_of_some _ q
    obtain ⟨its, r, ht, hz⟩ := I5.tuple hx
    have hlen := r.length
    show wpAny (model X.prog X.w) X.A (subscriptTail e (.Slice none none (some st) p2) (.ref a) (.ref s4.heap.objs.size)) (EP X pins σ Q) X.xe { s4 with heap := s4.heap.push { cls := .type "slice", data := .fields #[.none, .none, .int (-1) u] } }
    refine tail_any (ops := [.ref a, .ref s4.heap.objs.size]) ht.typeIs PyProof.Rows.slot_tuple_getitem.lookup ?_ (by with_unfolding_all rfl)
    refine tuple_back ht (Heap.IsSliceOf.new ..) ?_ (by rw [List.size_toArray]; omega)
    rw [List.toList_toArray]
    have hn := I5.hok.fresh (Nat.le_refl _)
    refine ⟨.ref (s4.heap.push { cls := .type "slice", data := .fields #[.none, .none, .int (-1) u] }).objs.size, _, I5.laid (t' := s4.toks) (o := .tup xs.reverse) (fun b ob q => Heap.get?_push_of_some _ q) (Nat.le_refl _) ?_, rfl, q _ _ hn (Ex.new hn) upd_same⟩
    exact ⟨by rw [List.length_reverse]; exact hz, _, Vals.reverse r, IsTup.new _ _⟩
/-! p != q, pairs of ints -/
def jNePr : R2 := fun x y H Q => ∃ t l, x = .ref t ∧ y = .ref l ∧ ∃ p, PrA H t p ∧ ∃ q, PrA H l q ∧ Q (.bl (!decide (p = q))) H
@[simp] theorem j_nePr {t l : Addr} {H : Hp} {Q : VK} : jNePr (.ref t) (.ref l) H Q = ∃ p, PrA H t p ∧ ∃ q, PrA H l q ∧ Q (.bl (!decide (p = q))) H := by simp [jNePr]
theorem op_nePr (hu : X.A.units + 64 < cLine) : OpR X (compareOp .NotEq) jNePr :=
  opBy (op_neD hu) fun x y H Q ⟨t, l, e1, e2, p, h1, q, h2, k⟩ => by
    subst e1 e2
    exact ⟨pd p, pd q, dpP h1, dpP h2, pd_shaped p, pd_shaped q, by rw [pd_eqv]; exact k⟩
end
end Jk

namespace Jk
open PySem PySem.Spec PyProof.Rows HT L2 Evl

/-! ## repr of a thing: plain data, a dict of ints, a list of such -/
theorem Rp.intW {i : Int} (h : i.natAbs < 10 ^ 10) : Rp (.int i) 40 0 := by
  have hl : i.natAbs.log2 < 34 := by
    by_cases h0 : i.natAbs = 0
    · rw [h0]; decide
    · exact (Nat.log2_lt h0).mpr (by omega)
  refine ⟨rfl, ?_, rfl, Nat.le_refl _, ?_, ?_⟩
  · simp only [PyData.showable, decide_eq_true_eq]; omega
  · simp only [PyData.weight]; split <;> omega
  · simp only [PyData.intsShort, PyData.shown]
    refine decide_eq_true ?_
    rw [PySem.ofString_length]
    exact Nat.le_trans (PySem.int_text_length_le10 (k := 10) (by decide) h) (by decide)
theorem Rp.bool (b : Bool) : Rp (.bool b) 4 0 := by cases b <;> exact ⟨by decide +kernel, rfl, rfl, Nat.le_refl _, by decide +kernel, rfl⟩
theorem Rp.zero : Rp (.str "0") 4 0 := ⟨by decide +kernel, rfl, rfl, Nat.le_refl _, by decide +kernel, rfl⟩
theorem Rp.none : Rp .none 4 0 := ⟨by decide +kernel, rfl, rfl, Nat.le_refl _, by decide +kernel, rfl⟩
inductive RepX (K : PySem.W.Frag) (H : Hp) : V → PyData → Prop
  | dat {x : V} {d : PyData} {w p : Nat} : Dp K H x d → Rp d w p → w ≤ 2 ^ 18 → p ≤ 50 → RepX K H x d
  | dic {a : Addr} {ps : List (Int × Int)} {w : Nat} : H a = some (.dK (dkI ps)) → Rq (ddI ps) w 1 → w ≤ 2 ^ 18 → RepX K H (.ref a) (ddI ps)
  | lst {a : Addr} {xs : List V} {ds : List PyData} {w p : Nat} : H a = some (.lst xs) → DqAll K H xs ds → RqL ds w p → w ≤ 2 ^ 18 → p ≤ 50 → RepX K H (.ref a) (.list ds)
def jReprX (K : PySem.W.Frag) : List V → Hp → VK → Prop := fun vs H Q => ∃ x, vs = [x] ∧ ∃ d, RepX K H x d ∧ Q (.str d.shown) H
@[simp] theorem j_reprX {K : PySem.W.Frag} {x : V} {H : Hp} {Q : VK} : jReprX K [x] H Q = ∃ d, RepX K H x d ∧ Q (.str d.shown) H := by simp [jReprX]
theorem call_reprX {X : Cx} {K0 : PySem.W.Frag} (hg : X.A.guards = some []) (hu : X.A.units + 64 < cLine) (hK : X.K = K0 := by rfl) : CallR X (.builtin "repr") (jReprX K0) := by
  subst hK
  intro pins s σ H xs us Q I r h
  obtain ⟨x, rfl, d, hx, q⟩ := h
  cases hx with
  | dat h1 h2 h3 h4 => exact call_reprA hg hu rfl pins s σ H _ us Q I r ⟨x, d, _, _, rfl, h1, h2, by omega, by omega, q⟩
  | lst h1 h2 h3 h4 h5 => exact call_reprM hg hu rfl pins s σ H _ us Q I r ⟨_, _, _, _, _, rfl, h1, h2, h3, by omega, by omega, q⟩
  | @dic a ps w h1 h2 h3 =>
    obtain ⟨u, rfl, ru⟩ := vals1 r
    obtain ⟨z, hd, vs, rel, o, es, ep, g1, g2, g3, _, g5, _⟩ := dk_of I.hok h1
    obtain ⟨d1, d2⟩ := dict_reads (h := s.heap) ps _ _ rel g5
    cases ru
    have e1 : (ps.map fun p => (PyData.int p.1, PyData.int p.2)).map (·.1) = ps.map fun p => PyData.int p.1 := by rw [List.map_map]; rfl
    have e2 : (ps.map fun p => (PyData.int p.1, PyData.int p.2)).map (·.2) = ps.map fun p => PyData.int p.2 := by rw [List.map_map]; rfl
    have rd : Reads s.heap (.ref a) (ddI ps) (a :: [] ++ []) := Reads.dict g1 g2.1 g3 (by rw [e1]; exact d1) (by rw [e2]; exact d2)
    have len : (ddI ps).shown.length ≤ sizeLine := by
      have z := PyData.shown_le 13 (by decide) (ddI ps) h2.lsh
      have w1 := h2.wgt
      refine Nat.le_trans z ?_
      rw [sizeLine_eq]
      have : (13 + 2) * (ddI ps).weight + 13 ≤ (13 + 2) * 2 ^ 19 + 13 := by omega
      exact Nat.le_trans this (by decide)
    exact PySem.repr_of_reads' rd h2.shw (fun _ hm => by
      simp at hm
      rw [hm] at hd
      simp at hd) hg (by have := h2.dep; omega) (fun _ _ z => z) (fun h' u tk k => ⟨.str (ddI ps).shown, H, I.kept (t' := tk) k, ⟨u, rfl⟩, q⟩) len
end Jk

namespace Jk
/-! ## webs without a row fall apart, by their ties or by those that are missing -/
def RowR (R : Int → Int → Bool) (a b c d : Int) : Prop := R a b = true ∧ R b c = true ∧ R c d = true ∧ R a c = false ∧ R a d = false ∧ R b d = false
def NoRow (R : Int → Int → Bool) (P : List Int) : Prop := ∀ a ∈ P, ∀ b ∈ P, ∀ c ∈ P, ∀ d ∈ P, ¬ RowR R a b c d
/-- hangs together by the ties j: each cut is crossed by one -/
def Conn (R : Int → Int → Bool) (j : Bool) (P : List Int) : Prop := ∀ S : Int → Bool, (∃ a ∈ P, S a = true) → (∃ b ∈ P, S b = false) → ∃ a ∈ P, ∃ b ∈ P, S a = true ∧ S b = false ∧ R a b = j
/-- a cut all of whose crossing pairs are j -/
def Cut (R : Int → Int → Bool) (j : Bool) (P : List Int) (S : Int → Bool) : Prop := (∃ a ∈ P, S a = true) ∧ (∃ b ∈ P, S b = false) ∧ ∀ a ∈ P, ∀ b ∈ P, S a = true → S b = false → R a b = j
theorem Cut.not_conn {R : Int → Int → Bool} {j : Bool} {P : List Int} {S : Int → Bool} (c : Cut R j P S) : ¬ Conn R (!j) P := fun h => by
  obtain ⟨c1, c2, c3⟩ := c
  obtain ⟨a, ha, b, hb, sa, sb, r⟩ := h S c1 c2
  rw [c3 a ha b hb sa sb] at r
  cases j <;> cases r
theorem cut_of {R : Int → Int → Bool} {j : Bool} {P : List Int} (h : ¬ Conn R j P) : ∃ S, Cut R (!j) P S := by
  unfold Conn at h
  simp only [Classical.not_forall] at h
  obtain ⟨S, c1, c2, c3⟩ := h
  refine ⟨S, c1, c2, fun a ha b hb sa sb => ?_⟩
  cases hr : R a b <;> cases j <;> first | rfl | exact absurd ⟨a, ha, b, hb, sa, sb, hr⟩ c3
/-- four points in a row by what is j are a row, perhaps in another order -/
theorem row_any {R : Int → Int → Bool} (sym : ∀ a b, R a b = R b a) {P : List Int} (no : NoRow R P) (j : Bool) {a b c d : Int} (ha : a ∈ P) (hb : b ∈ P) (hc : c ∈ P) (hd : d ∈ P) (h1 : R a b = j) (h2 : R b c = j) (h3 : R c d = j) (h4 : R a c = !j) (h5 : R a d = !j) (h6 : R b d = !j) : False := by
  cases j with
  | true => exact no a ha b hb c hc d hd ⟨h1, h2, h3, h4, h5, h6⟩
  | false => exact no b hb d hd a ha c hc ⟨h6, by rw [sym]; exact h5, h4, by rw [sym]; exact h1, h2, by rw [sym]; exact h3⟩
/-- the step of the theorem: v is laid to what falls apart by S -/
theorem cut_more {R : Int → Int → Bool} (sym : ∀ a b, R a b = R b a) {P : List Int} {v : Int} (no : NoRow R (v :: P)) (nv : v ∉ P) {j : Bool} {S : Int → Bool} (c : Cut R j P S) : ∃ j' S', Cut R j' (v :: P) S' := by
  -- the one way, by which side x0 lies on
  have way : ∀ S : Int → Bool, Cut R j P S → (∃ a ∈ P, S a = true ∧ R v a = !j) → (∃ b ∈ P, S b = false ∧ R v b = !j) → (∃ x ∈ P, S x = true ∧ R v x = j) → ∃ j' S', Cut R j' (v :: P) S' := by
    intro S c ⟨n, hn, sn, rn⟩ ⟨b1, hb1, sb1, rb1⟩ ⟨x, hx, sx, rx⟩
    obtain ⟨_, _, c3⟩ := c
    refine ⟨j, fun y => decide (y ∈ P) && S y && (R v y == j), ⟨x, by simp [hx], by simp [hx, sx, rx]⟩, ⟨v, by simp, by simp [nv]⟩, fun m hm y hy sm sy => ?_⟩
    simp only [Bool.and_eq_true, decide_eq_true_eq, beq_iff_eq] at sm
    obtain ⟨⟨mP, sm⟩, rm⟩ := sm
    rcases List.mem_cons.mp hy with rfl | yP
    · rw [sym]; exact rm
    · cases sy' : S y with
      | false => exact c3 m mP y yP sm sy'
      | true =>
        have ry : R v y = !j := by
          cases z : (R v y == j) with
          | true => simp [yP, sy', z] at sy
          | false =>
            have : R v y ≠ j := by simpa using z
            cases hh : R v y <;> cases j <;> simp_all
        cases hr : R m y == j with
        | true => simpa using hr
        | false =>
          have hr' : R m y = !j := by
            have : R m y ≠ j := by simpa using hr
            cases hh : R m y <;> cases j <;> simp_all
          refine (row_any sym no (!j) (a := b1) (b := v) (c := y) (d := m) (by simp [hb1]) (by simp) (by simp [yP]) (by simp [mP]) (by rw [sym]; exact rb1) ry (by rw [sym]; exact hr') ?_ ?_ ?_).elim
          · rw [sym, c3 y yP b1 hb1 sy' sb1, Bool.not_not]
          · rw [sym, c3 m mP b1 hb1 sm sb1, Bool.not_not]
          · rw [rm, Bool.not_not]
  obtain ⟨c1, c2, c3⟩ := id c
  obtain ⟨a0, ha0, sa0⟩ := c1
  obtain ⟨b0, hb0, sb0⟩ := c2
  by_cases hA : ∀ a ∈ P, S a = true → R v a = j
  · refine ⟨j, fun y => decide (y ∈ P) && S y, ⟨a0, by simp [ha0], by simp [ha0, sa0]⟩, ⟨v, by simp, by simp [nv]⟩, fun m hm y hy sm sy => ?_⟩
    simp only [Bool.and_eq_true, decide_eq_true_eq] at sm
    rcases List.mem_cons.mp hy with rfl | yP
    · rw [sym]; exact hA m sm.1 sm.2
    · exact c3 m sm.1 y yP sm.2 (by simpa [yP] using sy)
  by_cases hB : ∀ b ∈ P, S b = false → R v b = j
  · refine ⟨j, fun y => decide (y ∈ P) && !S y, ⟨b0, by simp [hb0], by simp [hb0, sb0]⟩, ⟨v, by simp, by simp [nv]⟩, fun m hm y hy sm sy => ?_⟩
    simp only [Bool.and_eq_true, decide_eq_true_eq, Bool.not_eq_true'] at sm
    rcases List.mem_cons.mp hy with rfl | yP
    · rw [sym]; exact hB m sm.1 sm.2
    · rw [sym]; exact c3 y yP m sm.1 (by simpa [yP] using sy) sm.2
  have flip : ∀ x : Int, R v x ≠ j → R v x = !j := fun x h => by cases hh : R v x <;> cases j <;> simp_all
  simp only [Classical.not_forall] at hA hB
  obtain ⟨a1, ha1, sa1, ra1⟩ := hA
  obtain ⟨b1, hb1, sb1, rb1⟩ := hB
  by_cases hX : ∀ x ∈ P, R v x = !j
  · refine ⟨!j, fun y => decide (y = v), ⟨v, by simp, by simp⟩, ⟨a0, by simp [ha0], by simp; exact fun z => nv (z ▸ ha0)⟩, fun m hm y hy sm sy => ?_⟩
    simp only [decide_eq_true_eq, decide_eq_false_iff_not] at sm sy
    subst sm
    rcases List.mem_cons.mp hy with z | yP
    · exact absurd z sy
    · exact hX y yP
  simp only [Classical.not_forall] at hX
  obtain ⟨x, hx, rx⟩ := hX
  have rx' : R v x = j := by cases hh : R v x <;> cases j <;> simp_all
  cases sx : S x with
  | true => exact way S c ⟨a1, ha1, sa1, flip _ ra1⟩ ⟨b1, hb1, sb1, flip _ rb1⟩ ⟨x, hx, sx, rx'⟩
  | false =>
    refine way (fun y => !S y) ⟨⟨b0, hb0, by simp [sb0]⟩, ⟨a0, ha0, by simp [sa0]⟩, fun m hm y hy sm sy => ?_⟩ ⟨b1, hb1, by simp [sb1], flip _ rb1⟩ ⟨a1, ha1, by simp [sa1], flip _ ra1⟩ ⟨x, hx, by simp [sx], rx'⟩
    rw [sym]
    exact c3 y hy m hm (by simpa using sy) (by simpa using sm)
theorem cut_ex {R : Int → Int → Bool} (sym : ∀ a b, R a b = R b a) : ∀ {P : List Int}, P.Nodup → NoRow R P → 2 ≤ P.length → ∃ j S, Cut R j P S
  | [], _, _, h => by simp at h
  | [v], _, _, h => by simp at h
  | v :: u :: [], nd, _, _ => by
    have ne : v ≠ u := by simp at nd; exact nd
    refine ⟨R v u, fun y => decide (y = v), ⟨v, by simp, by simp⟩, ⟨u, by simp, by simp; exact ne.symm⟩, fun m hm y hy sm sy => ?_⟩
    simp only [decide_eq_true_eq, decide_eq_false_iff_not] at sm sy
    simp at hy
    rcases hy with rfl | rfl
    · exact absurd rfl sy
    · rw [sm]
  | v :: u :: w :: P, nd, no, _ => by
    obtain ⟨n1, n2⟩ := List.nodup_cons.mp nd
    obtain ⟨j, S, c⟩ := cut_ex sym (P := u :: w :: P) n2 (fun a ha b hb c hc d hd => no a (List.mem_cons_of_mem _ ha) b (List.mem_cons_of_mem _ hb) c (List.mem_cons_of_mem _ hc) d (List.mem_cons_of_mem _ hd)) (by simp)
    exact cut_more sym no n1 c
theorem conn_two {R : Int → Int → Bool} (sym : ∀ a b, R a b = R b a) {P : List Int} (nd : P.Nodup) (no : NoRow R P) (h2 : 2 ≤ P.length) : ¬ Conn R true P ∨ ¬ Conn R false P := by
  obtain ⟨j, S, c⟩ := cut_ex sym nd no h2
  cases j with
  | true => exact .inr c.not_conn
  | false => exact .inl c.not_conn
end Jk

namespace Jk
/-! ## what hangs together -/
inductive Rch (R : Int → Int → Bool) (j : Bool) (P : List Int) (a : Int) : Int → Prop
  | here : Rch R j P a a
  | step {b c : Int} : Rch R j P a b → c ∈ P → R b c = j → Rch R j P a c
open Classical in
noncomputable def grp (R : Int → Int → Bool) (j : Bool) (P : List Int) (a : Int) : List Int := P.filter fun b => decide (Rch R j P a b)
section
variable {R : Int → Int → Bool} {j : Bool} {P : List Int} {a : Int}
theorem grp_in {x : Int} : x ∈ grp R j P a ↔ x ∈ P ∧ Rch R j P a x := by unfold grp; rw [List.mem_filter]; simp
theorem grp_sub : (grp R j P a).Sublist P := List.filter_sublist
theorem grp_here (h : a ∈ P) : a ∈ grp R j P a := grp_in.mpr ⟨h, .here⟩
theorem grp_closed {x y : Int} (hx : x ∈ grp R j P a) (hy : y ∈ P) (r : R x y = j) : y ∈ grp R j P a := grp_in.mpr ⟨hy, .step (grp_in.mp hx).2 hy r⟩
/-- what is closed and reached is just that -/
theorem grp_uniq {L : List Int} (h1 : a ∈ L) (h2 : ∀ x ∈ L, x ∈ P ∧ Rch R j P a x) (h3 : ∀ x ∈ L, ∀ y ∈ P, R x y = j → y ∈ L) (x : Int) : x ∈ L ↔ x ∈ grp R j P a := by
  refine ⟨fun h => grp_in.mpr (h2 x h), fun h => ?_⟩
  have r := (grp_in.mp h).2
  clear h
  induction r with
  | here => exact h1
  | step _ hc r ih => exact h3 _ ih _ hc r
theorem grp_conn (sym : ∀ a b, R a b = R b a) (h : a ∈ P) : Conn R j (grp R j P a) := by
  have walk : ∀ (S : Int → Bool) (x : Int), Rch R j P a x → x ∈ P → S x ≠ S a → ∃ u ∈ grp R j P a, ∃ v ∈ grp R j P a, S u = S a ∧ S v ≠ S a ∧ R u v = j := by
    intro S x r
    induction r with
    | here => intro _ z; exact absurd rfl z
    | step rb hc r ih =>
      rename_i b c
      intro _ z
      by_cases e : S b = S a
      · have hb : b ∈ grp R j P a := by
          cases rb with
          | here => exact grp_here h
          | step q w r' => exact grp_in.mpr ⟨w, .step q w r'⟩
        exact ⟨b, hb, c, grp_closed hb hc r, e, z, r⟩
      · have hb : b ∈ P := by
          cases rb with
          | here => exact h
          | step q w r' => exact w
        exact ih hb e
  intro S ⟨x, hx, sx⟩ ⟨y, hy, sy⟩
  cases sa : S a with
  | true =>
    obtain ⟨u, hu, v, hv, s1, s2, r⟩ := walk S y (grp_in.mp hy).2 (grp_in.mp hy).1 (by rw [sy, sa]; simp)
    exact ⟨u, hu, v, hv, by rw [s1, sa], by rw [sa] at s2; simpa using s2, r⟩
  | false =>
    obtain ⟨u, hu, v, hv, s1, s2, r⟩ := walk S x (grp_in.mp hx).2 (grp_in.mp hx).1 (by rw [sx, sa]; simp)
    exact ⟨v, hv, u, hu, by rw [sa] at s2; simpa using s2, by rw [s1, sa], by rw [sym]; exact r⟩
end
noncomputable def grpsF (R : Int → Int → Bool) (j : Bool) : Nat → List Int → List (List Int)
  | 0, _ => []
  | _ + 1, [] => []
  | n + 1, a :: l => grp R j (a :: l) a :: grpsF R j n ((a :: l).filter fun x => decide (x ∉ grp R j (a :: l) a))
noncomputable def grps (R : Int → Int → Bool) (j : Bool) (P : List Int) : List (List Int) := grpsF R j P.length P
section
variable {R : Int → Int → Bool} {j : Bool}
theorem left_lt (a : Int) (l : List Int) : ((a :: l).filter fun x => decide (x ∉ grp R j (a :: l) a)).length < (a :: l).length := by
  have h : a ∈ grp R j (a :: l) a := grp_here (by simp)
  rw [List.filter_cons, if_neg (by simp [h])]
  have := List.length_filter_le (fun x => decide (x ∉ grp R j (a :: l) a)) l
  simp only [List.length_cons]
  omega
theorem grpsF_fuel : ∀ (n m : Nat) (P : List Int), P.length ≤ n → P.length ≤ m → grpsF R j n P = grpsF R j m P
  | n, m, [], _, _ => by cases n <;> cases m <;> rfl
  | 0, m, a :: l, h, _ => by simp at h
  | n + 1, 0, a :: l, _, h => by simp at h
  | n + 1, m + 1, a :: l, h1, h2 => by
    have lt := left_lt (R := R) (j := j) a l
    rw [grpsF, grpsF, grpsF_fuel n m _ (by omega) (by omega)]
theorem grps_nil : grps R j [] = [] := rfl
theorem grps_cons (a : Int) (l : List Int) : grps R j (a :: l) = grp R j (a :: l) a :: grps R j ((a :: l).filter fun x => decide (x ∉ grp R j (a :: l) a)) := by
  have lt := left_lt (R := R) (j := j) a l
  show grpsF R j (l.length + 1) (a :: l) = _
  rw [grpsF, grps, grpsF_fuel _ _ _ (by simp only [List.length_cons] at lt; omega) (Nat.le_refl _)]
/-- a word about all groups, by their number of points -/
theorem grps_ind {C : List Int → List (List Int) → Prop} (h0 : C [] []) (h1 : ∀ a l, C ((a :: l).filter fun x => decide (x ∉ grp R j (a :: l) a)) (grps R j ((a :: l).filter fun x => decide (x ∉ grp R j (a :: l) a))) → C (a :: l) (grps R j (a :: l))) : ∀ P, C P (grps R j P) := by
  have : ∀ n P, P.length ≤ n → C P (grps R j P) := by
    intro n
    induction n with
    | zero =>
      intro P h
      have e : P = [] := List.length_eq_zero_iff.mp (by omega)
      subst e
      exact h0
    | succ n ih =>
      intro P h
      cases P with
      | nil => exact h0
      | cons a l => exact h1 a l (ih _ (by have := left_lt (R := R) (j := j) a l; omega))
  exact fun P => this _ P (Nat.le_refl _)
theorem split_perm {P g : List Int} (sub : g.Sublist P) (nd : P.Nodup) : (g ++ P.filter fun x => decide (x ∉ g)).Perm P := by
  refine (List.perm_iff_count.mpr fun x => ?_)
  rw [List.count_append]
  by_cases hx : x ∈ g
  · have c1 : g.count x = 1 := (nd.sublist sub).count.trans (if_pos hx)
    have c2 : P.count x = 1 := nd.count.trans (if_pos (sub.subset hx))
    have c3 : (P.filter fun x => decide (x ∉ g)).count x = 0 := List.count_eq_zero.mpr fun z => by
      have := (List.mem_filter.mp z).2
      simp [hx] at this
    omega
  · have c1 : g.count x = 0 := List.count_eq_zero.mpr hx
    have c3 : (P.filter fun x => decide (x ∉ g)).count x = P.count x := by rw [List.count_filter (by simp [hx])]
    omega
theorem grps_perm : ∀ P : List Int, P.Nodup → (grps R j P).flatten.Perm P := grps_ind (C := fun P gs => P.Nodup → gs.flatten.Perm P) (fun _ => List.Perm.refl _) fun a l ih nd => by
  rw [grps_cons, List.flatten_cons]
  exact ((ih (nd.sublist List.filter_sublist)).append_left _).trans (split_perm grp_sub nd)
theorem grps_each (sym : ∀ a b, R a b = R b a) : ∀ P : List Int, ∀ g ∈ grps R j P, g ≠ [] ∧ g.Sublist P ∧ Conn R j g := grps_ind (C := fun P gs => ∀ g ∈ gs, g ≠ [] ∧ g.Sublist P ∧ Conn R j g) (fun g h => nomatch h) fun a l ih g hg => by
  rw [grps_cons] at hg
  rcases List.mem_cons.mp hg with rfl | hg
  · have h := grp_here (R := R) (j := j) (P := a :: l) (a := a) (by simp)
    exact ⟨fun z => (by rw [z] at h; cases h), grp_sub, grp_conn sym (by simp)⟩
  · obtain ⟨h1, h2, h3⟩ := ih g hg
    exact ⟨h1, h2.trans List.filter_sublist, h3⟩
theorem grps_apart : ∀ P : List Int, (grps R j P).Pairwise fun g h => ∀ x ∈ g, ∀ y ∈ h, R x y ≠ j := by
  have in' : ∀ P : List Int, ∀ g ∈ grps R j P, ∀ x ∈ g, x ∈ P := grps_ind (C := fun P gs => ∀ g ∈ gs, ∀ x ∈ g, x ∈ P) (fun g h => nomatch h) fun a l ih g hg x hx => by
    rw [grps_cons] at hg
    rcases List.mem_cons.mp hg with rfl | hg
    · exact grp_sub.subset hx
    · exact (List.mem_filter.mp (ih g hg x hx)).1
  refine grps_ind (C := fun P gs => gs.Pairwise fun g h => ∀ x ∈ g, ∀ y ∈ h, R x y ≠ j) List.Pairwise.nil fun a l ih => ?_
  rw [grps_cons]
  refine List.pairwise_cons.mpr ⟨fun h hh x hx y hy r => ?_, ih⟩
  have := in' _ h hh y hy
  obtain ⟨yP, yn⟩ := List.mem_filter.mp this
  simp at yn
  have := grp_closed hx yP r
  simp_all
theorem grps_heads : ∀ P : List Int, P.Pairwise (· < ·) → ((grps R j P).map fun g => g.headD 0).Pairwise (· < ·) ∧ ∀ g ∈ grps R j P, P.headD 0 ≤ g.headD 0 := by
  refine grps_ind (C := fun P gs => P.Pairwise (· < ·) → (gs.map fun g => g.headD 0).Pairwise (· < ·) ∧ ∀ g ∈ gs, P.headD 0 ≤ g.headD 0) (fun _ => ⟨List.Pairwise.nil, fun g h => nomatch h⟩) fun a l ih inc => ?_
  obtain ⟨p1, p2⟩ := List.pairwise_cons.mp inc
  have ha : a ∈ grp R j (a :: l) a := grp_here (by simp)
  have hd : (grp R j (a :: l) a).headD 0 = a := by
    have e : grp R j (a :: l) a = a :: (l.filter fun b => @decide (Rch R j (a :: l) a b) (Classical.propDecidable _)) := by
      unfold grp
      rw [List.filter_cons, if_pos]
      simp
      exact .here
    rw [e]
    rfl
  obtain ⟨i1, i2⟩ := ih (inc.sublist List.filter_sublist)
  have big : ∀ g ∈ grps R j ((a :: l).filter fun x => decide (x ∉ grp R j (a :: l) a)), a < g.headD 0 := fun g hg => by
    have h := i2 g hg
    have e : ((a :: l).filter fun x => decide (x ∉ grp R j (a :: l) a)) = l.filter fun x => decide (x ∉ grp R j (a :: l) a) := by rw [List.filter_cons, if_neg (by simp [ha])]
    rw [e] at h hg
    cases z : l.filter fun x => decide (x ∉ grp R j (a :: l) a) with
    | nil => rw [z, grps_nil] at hg; cases hg
    | cons b m =>
      rw [z] at h
      have hb : b ∈ l := (List.mem_filter.mp (by rw [z]; simp : b ∈ l.filter fun x => decide (x ∉ grp R j (a :: l) a))).1
      have := p1 b hb
      simp only [List.headD_cons] at h
      omega
  rw [grps_cons]
  refine ⟨?_, fun g hg => ?_⟩
  · rw [List.map_cons, List.pairwise_cons]
    refine ⟨fun x hx => ?_, i1⟩
    obtain ⟨g, hg, rfl⟩ := List.mem_map.mp hx
    rw [hd]
    exact big g hg
  · rcases List.mem_cons.mp hg with rfl | hg
    · rw [hd]; simp
    · have := big g hg
      simp only [List.headD_cons]
      omega
theorem grps_pos {P : List Int} (h : P ≠ []) : grps R j P ≠ [] := by
  cases P with
  | nil => exact absurd rfl h
  | cons a l => rw [grps_cons]; simp
theorem grps_one (sym : ∀ a b, R a b = R b a) {P : List Int} (nd : P.Nodup) (h : (grps R j P).length = 1) : Conn R j P := by
  match e : grps R j P, h with
  | [g], _ =>
    have hp := grps_perm (R := R) (j := j) P nd
    obtain ⟨_, sub, con⟩ := grps_each sym P g (by rw [e]; simp)
    rw [e] at hp
    simp at hp
    have : g = P := sub.eq_of_length hp.length_eq
    rw [this] at con
    exact con
theorem grps_more {P : List Int} (hc : Conn R j P) (h : P ≠ []) : (grps R j P).length = 1 := by
  cases P with
  | nil => exact absurd rfl h
  | cons a l =>
    rw [grps_cons]
    have ha : a ∈ grp R j (a :: l) a := grp_here (by simp)
    have none : ((a :: l).filter fun x => decide (x ∉ grp R j (a :: l) a)) = [] := by
      rw [List.filter_eq_nil_iff]
      intro x hx
      simp only [decide_not, Bool.not_eq_true', decide_eq_false_iff_not, Classical.not_not]
      apply Classical.byContradiction
      intro nx
      obtain ⟨u, hu, v, hv, su, sv, r⟩ := hc (fun y => decide (y ∈ grp R j (a :: l) a)) ⟨a, by simp, by simp [ha]⟩ ⟨x, hx, by simpa using nx⟩
      simp only [decide_eq_true_eq, decide_eq_false_iff_not] at su sv
      exact sv (grp_closed su hv r)
    rw [none, grps_nil]
    rfl
end
end Jk

namespace Jk
/-! ## the tree of a web without a row -/
noncomputable def treeF (R : Int → Int → Bool) : Nat → List Int → Tr
  | 0, P => .pt (P.headD 0)
  | n + 1, P => if P.length = 1 then .pt (P.headD 0) else if (grps R true P).length = 1 then .nd true ((grps R false P).map (treeF R n)) else .nd false ((grps R true P).map (treeF R n))
structure TreeOf (R : Int → Int → Bool) (P : List Int) (t : Tr) : Prop where
  form : t.form
  pts : t.pts.Perm P
  least : t.least = P.headD 0
  tie : ∀ a ∈ P, ∀ b ∈ P, a ≠ b → t.tie a b = R a b
  wd : ∀ j, Conn R j P → t.wd ≠ some (!j)
theorem ptsL_perms {f : List Int → Tr} : ∀ {gs : List (List Int)}, (∀ g ∈ gs, (f g).pts.Perm g) → (ptsL (gs.map f)).Perm gs.flatten
  | [], _ => by simp [ptsL]
  | g :: gs, h => by
    rw [List.map_cons, ptsL, List.flatten_cons]
    exact (h g (by simp)).append (ptsL_perms fun k hk => h k (by simp [hk]))
theorem NoRow.sub {R : Int → Int → Bool} {P Q : List Int} (h : NoRow R P) (s : ∀ x ∈ Q, x ∈ P) : NoRow R Q := fun a ha b hb c hc d hd => h a (s a ha) b (s b hb) c (s c hc) d (s d hd)
theorem lt_nodup {P : List Int} (h : P.Pairwise (· < ·)) : P.Nodup := h.imp fun h => by omega
theorem two_groups {gs : List (List Int)} {P : List Int} (p : gs.flatten.Perm P) (ne : ∀ g ∈ gs, g ≠ []) (h2 : 2 ≤ gs.length) {g : List Int} (hg : g ∈ gs) : g.length < P.length := by
  obtain ⟨xs, ys, rfl⟩ := List.append_of_mem hg
  have := p.length_eq
  rw [List.flatten_append, List.flatten_cons, List.length_append, List.length_append] at this
  have more : 1 ≤ xs.flatten.length + ys.flatten.length := by
    cases xs with
    | cons x xs =>
      have := List.length_pos_iff.mpr (ne x (by simp))
      rw [List.flatten_cons, List.length_append]; omega
    | nil =>
      cases ys with
      | nil => simp at h2
      | cons y ys =>
        have := List.length_pos_iff.mpr (ne y (by simp))
        rw [List.flatten_cons, List.length_append]; omega
  omega
theorem node_of {R : Int → Int → Bool} (sym : ∀ a b, R a b = R b a) {P : List Int} (inc : P.Pairwise (· < ·)) (hP : P ≠ []) {j : Bool} {f : List Int → Tr} (h2 : 2 ≤ (grps R (!j) P).length) (ih : ∀ g ∈ grps R (!j) P, TreeOf R g (f g)) (no : ¬ Conn R (!j) P) : TreeOf R P (.nd j ((grps R (!j) P).map f)) := by
  have nd := lt_nodup inc
  have pm := grps_perm (R := R) (j := !j) P nd
  have each := grps_each (R := R) (j := !j) sym P
  have hh := grps_heads (R := R) (j := !j) P inc
  have pp := ptsL_perms fun g hg => (ih g hg).pts
  have ndp : (ptsL ((grps R (!j) P).map f)).Nodup := (pp.trans pm).nodup_iff.mpr nd
  refine ⟨?_, ?_, ?_, ?_, ?_⟩
  · rw [Tr.form]
    refine ⟨by rw [List.length_map]; exact h2, ?_, formL_iff.mpr fun t ht => ?_⟩
    · rw [List.map_map]
      have e : (grps R (!j) P).map (Tr.least ∘ f) = (grps R (!j) P).map fun g => g.headD 0 := List.map_congr_left fun g hg => (ih g hg).least
      rw [e]
      exact hh.1
    · obtain ⟨g, hg, rfl⟩ := List.mem_map.mp ht
      have := (ih g hg).wd (!j) (each g hg).2.2
      rw [Bool.not_not] at this
      exact ⟨(ih g hg).form, this⟩
  · rw [Tr.pts]
    exact pp.trans pm
  · rw [Tr.least]
    cases P with
    | nil => exact absurd rfl hP
    | cons a l =>
      rw [grps_cons, List.map_cons, leastL]
      have hg : grp R (!j) (a :: l) a ∈ grps R (!j) (a :: l) := by rw [grps_cons]; simp
      rw [(ih _ hg).least]
      have e : grp R (!j) (a :: l) a = a :: (l.filter fun b => @decide (Rch R (!j) (a :: l) a b) (Classical.propDecidable _)) := by
        unfold grp
        rw [List.filter_cons, if_pos]
        simp
        exact .here
      rw [e]
      rfl
  · intro a ha b hb ne
    obtain ⟨ga, hga, aga⟩ := List.mem_flatten.mp (pm.mem_iff.mpr ha)
    obtain ⟨gb, hgb, bgb⟩ := List.mem_flatten.mp (pm.mem_iff.mpr hb)
    obtain ⟨i, hi, ei⟩ := List.mem_iff_getElem.mp hga
    obtain ⟨k, hk, ek⟩ := List.mem_iff_getElem.mp hgb
    have fi : ((grps R (!j) P).map f)[i]? = some (f ga) := by rw [List.getElem?_map, List.getElem?_eq_getElem hi, ei]; rfl
    have fk : ((grps R (!j) P).map f)[k]? = some (f gb) := by rw [List.getElem?_map, List.getElem?_eq_getElem hk, ek]; rfl
    have pa : a ∈ (f ga).pts := (ih ga hga).pts.mem_iff.mpr aga
    have pb : b ∈ (f gb).pts := (ih gb hgb).pts.mem_iff.mpr bgb
    rw [Tr.tie]
    by_cases e : i = k
    · subst e
      rw [ei] at ek
      subst ek
      rw [tieL_in ndp (List.mem_of_getElem? fi) pa pb]
      exact (ih ga hga).tie a aga b bgb ne
    · rw [tieL_apart ndp fi fk pa pb e]
      have ap := grps_apart (R := R) (j := !j) P
      have nr : R a b ≠ !j := by
        rcases Nat.lt_or_gt_of_ne e with lt | lt
        · have := List.pairwise_iff_getElem.mp ap i k hi hk lt
          exact this a (by rw [ei]; exact aga) b (by rw [ek]; exact bgb)
        · have := List.pairwise_iff_getElem.mp ap k i hk hi lt
          rw [sym]
          exact this b (by rw [ek]; exact bgb) a (by rw [ei]; exact aga)
      cases h : R a b <;> cases j <;> simp_all
  · intro i hc e
    have e' : j = !i := by simpa [Tr.wd] using e
    subst e'
    rw [Bool.not_not] at no
    exact no hc
theorem treeF_ok {R : Int → Int → Bool} (sym : ∀ a b, R a b = R b a) : ∀ (n : Nat) (P : List Int), P.length ≤ n → P ≠ [] → P.Pairwise (· < ·) → NoRow R P → TreeOf R P (treeF R n P)
  | 0, P, h, ne, _, _ => absurd (List.length_eq_zero_iff.mp (by omega)) ne
  | n + 1, P, h, ne, inc, no => by
    rw [treeF]
    have nd := lt_nodup inc
    have pos := List.length_pos_iff.mpr ne
    have kids : ∀ j : Bool, 2 ≤ (grps R j P).length → ∀ g ∈ grps R j P, TreeOf R g (treeF R n g) := fun j h2 g hg => by
      obtain ⟨g1, g2, g3⟩ := grps_each (R := R) (j := j) sym P g hg
      have lt := two_groups (grps_perm (R := R) (j := j) P nd) (fun k hk => (grps_each (R := R) (j := j) sym P k hk).1) h2 hg
      exact treeF_ok sym n g (by omega) g1 (inc.sublist g2) (no.sub fun x hx => g2.subset hx)
    by_cases h1 : P.length = 1
    · rw [if_pos h1]
      match P, h1 with
      | [a], _ =>
        refine ⟨by simp [Tr.form], by simp [Tr.pts], by simp [Tr.least], fun x hx y hy ne => ?_, fun j _ => by simp [Tr.wd]⟩
        simp at hx hy
        exact absurd (hx.trans hy.symm) ne
    · rw [if_neg h1]
      have two := conn_two sym nd no (by omega)
      by_cases hc : (grps R true P).length = 1
      · rw [if_pos hc]
        have c1 := grps_one sym nd hc
        have c2 : ¬ Conn R false P := by rcases two with z | z; exact absurd c1 z; exact z
        have p0 := List.length_pos_iff.mpr (grps_pos (R := R) (j := false) ne)
        have h2 : 2 ≤ (grps R false P).length := by
          have : (grps R false P).length ≠ 1 := fun z => c2 (grps_one sym nd z)
          omega
        exact node_of sym inc ne (j := true) h2 (kids false h2) c2
      · rw [if_neg hc]
        have c2 : ¬ Conn R true P := fun z => hc (grps_more z ne)
        have p0 := List.length_pos_iff.mpr (grps_pos (R := R) (j := true) ne)
        have h2 : 2 ≤ (grps R true P).length := by omega
        exact node_of sym inc ne (j := false) h2 (kids true h2) c2
end Jk

namespace Jk
/-! ## a tree's web has no row -/
theorem tie_part {j : Bool} {ts : List Tr} (nd : (ptsL ts).Nodup) {a b : Int} (h : tieL j ts a b ≠ j) : ∃ u ∈ ts, a ∈ u.pts ∧ b ∈ u.pts ∧ u.tie a b = tieL j ts a b := by
  apply Classical.byContradiction
  intro no
  refine h (tieL_out fun u hu ⟨x, y⟩ => no ⟨u, hu, x, y, ?_⟩)
  rw [tieL_in nd hu x y]
theorem one_part {ts : List Tr} (nd : (ptsL ts).Nodup) {u v : Tr} {a : Int} (hu : u ∈ ts) (hv : v ∈ ts) (x : a ∈ u.pts) (y : a ∈ v.pts) : u = v := by
  obtain ⟨i, hi, ei⟩ := List.mem_iff_getElem.mp hu
  obtain ⟨k, hk, ek⟩ := List.mem_iff_getElem.mp hv
  have e := nd_disj nd (i := i) (k := k) (by rw [List.getElem?_eq_getElem hi, ei]) (by rw [List.getElem?_eq_getElem hk, ek]) x y
  subst e
  rw [← ei, ← ek]
mutual
theorem tie_norow : ∀ t : Tr, t.pts.Nodup → NoRow t.tie t.pts
  | .pt n, _ => by
    intro a _ b _ c _ d _ ⟨h, _⟩
    rw [Tr.tie] at h
    cases h
  | .nd j ts, nd => by
    rw [Tr.pts] at nd
    have ih := ties_norow ts nd
    intro a ha b hb c hc d hd ⟨h1, h2, h3, h4, h5, h6⟩
    rw [Tr.tie] at h1 h2 h3 h4 h5 h6
    cases j with
    | false =>
      obtain ⟨u, hu, ua, ub, e1⟩ := tie_part nd (by rw [h1]; simp)
      obtain ⟨v, hv, vb, vc, e2⟩ := tie_part nd (by rw [h2]; simp)
      obtain ⟨w, hw, wc, wd, e3⟩ := tie_part nd (by rw [h3]; simp)
      obtain rfl := one_part nd hu hv ub vb
      obtain rfl := one_part nd hu hw vc wc
      rw [tieL_in nd hu ua ub] at h1
      rw [tieL_in nd hu ub vc] at h2
      rw [tieL_in nd hu vc wd] at h3
      rw [tieL_in nd hu ua vc] at h4
      rw [tieL_in nd hu ua wd] at h5
      rw [tieL_in nd hu ub wd] at h6
      exact ih u hu a ua b ub c vc d wd ⟨h1, h2, h3, h4, h5, h6⟩
    | true =>
      obtain ⟨u, hu, ua, uc, _⟩ := tie_part nd (by rw [h4]; simp)
      obtain ⟨v, hv, va, vd, _⟩ := tie_part nd (by rw [h5]; simp)
      obtain ⟨w, hw, wb, wd, _⟩ := tie_part nd (by rw [h6]; simp)
      obtain rfl := one_part nd hu hv ua va
      obtain rfl := one_part nd hu hw vd wd
      rw [tieL_in nd hu ua wb] at h1
      rw [tieL_in nd hu wb uc] at h2
      rw [tieL_in nd hu uc vd] at h3
      rw [tieL_in nd hu ua uc] at h4
      rw [tieL_in nd hu ua vd] at h5
      rw [tieL_in nd hu wb vd] at h6
      exact ih u hu a ua b wb c uc d vd ⟨h1, h2, h3, h4, h5, h6⟩
theorem ties_norow : ∀ ts : List Tr, (ptsL ts).Nodup → ∀ t ∈ ts, NoRow t.tie t.pts
  | [], _ => fun _ h => nomatch h
  | t :: ts, nd => by
    rw [ptsL] at nd
    have h0 := tie_norow t (List.nodup_append.mp nd).1
    have h1 := ties_norow ts (List.nodup_append.mp nd).2.1
    intro u hu
    rcases List.mem_cons.mp hu with rfl | hu
    · exact h0
    · exact h1 u hu
end
end Jk

namespace Jk
/-! ## a web has one tree -/
theorem form_some {t : Tr} (f : t.form) : t.pts ≠ [] := List.ne_nil_of_mem (least_in t f)
theorem node_conn {j : Bool} {ts : List Tr} (f : (Tr.nd j ts).form) (nd : (ptsL ts).Nodup) : Conn (tieL j ts) j (ptsL ts) := by
  rw [Tr.form] at f
  intro S ⟨a, ha, sa⟩ ⟨b, hb, sb⟩
  obtain ⟨t, ht, at'⟩ := mem_ptsL.mp ha
  obtain ⟨u, hu, bu⟩ := mem_ptsL.mp hb
  obtain ⟨i, hi, ei⟩ := List.mem_iff_getElem.mp ht
  obtain ⟨k, hk, ek⟩ := List.mem_iff_getElem.mp hu
  have fi : ts[i]? = some t := by rw [List.getElem?_eq_getElem hi, ei]
  have fk : ts[k]? = some u := by rw [List.getElem?_eq_getElem hk, ek]
  by_cases e : i = k
  · subst e
    have : ∃ m, m < ts.length ∧ m ≠ i := by
      by_cases z : i = 0
      · exact ⟨1, by omega, by omega⟩
      · exact ⟨0, by omega, fun h => z h.symm⟩
    obtain ⟨m, hm, ne⟩ := this
    have fm : ts[m]? = some ts[m] := List.getElem?_eq_getElem hm
    have fo := (formL_iff.mp f.2.2 _ (List.getElem_mem hm)).1
    obtain ⟨c, hc⟩ := List.exists_mem_of_ne_nil _ (form_some fo)
    have cp : c ∈ ptsL ts := mem_ptsL.mpr ⟨_, List.getElem_mem hm, hc⟩
    cases sc : S c with
    | false => exact ⟨a, ha, c, cp, sa, sc, tieL_apart nd fi fm at' hc ne.symm⟩
    | true => exact ⟨c, cp, b, hb, sc, sb, tieL_apart nd fm fk hc bu ne⟩
  · exact ⟨a, ha, b, hb, sa, sb, tieL_apart nd fi fk at' bu e⟩
theorem tree_conn {j : Bool} : ∀ {t : Tr}, t.form → t.pts.Nodup → t.wd ≠ some j → Conn t.tie (!j) t.pts
  | .pt n, _, _, _ => by
    intro S ⟨a, ha, sa⟩ ⟨b, hb, sb⟩
    rw [Tr.pts] at ha hb
    simp at ha hb
    subst ha hb
    rw [sa] at sb
    cases sb
  | .nd i ts, f, nd, w => by
    have e : i = !j := by
      rw [Tr.wd] at w
      cases i <;> cases j <;> simp_all
    subst e
    rw [Tr.pts] at nd ⊢
    have := node_conn f nd
    intro S h1 h2
    obtain ⟨a, ha, b, hb, x, y, z⟩ := this S h1 h2
    exact ⟨a, ha, b, hb, x, y, by rw [Tr.tie]; exact z⟩
theorem part_in {j : Bool} {ts us : List Tr} (ndt : (ptsL ts).Nodup) (ndu : (ptsL us).Nodup) (same : ∀ x, x ∈ ptsL us → x ∈ ptsL ts) (ag : ∀ a ∈ ptsL us, ∀ b ∈ ptsL us, a ≠ b → tieL j us a b = tieL j ts a b) {u t : Tr} (hu : u ∈ us) (ht : t ∈ ts) (fu : u.form) (wu : u.wd ≠ some j) (pu : u.pts.Nodup) {a : Int} (au : a ∈ u.pts) (at' : a ∈ t.pts) : ∀ x ∈ u.pts, x ∈ t.pts := by
  apply Classical.byContradiction
  intro no
  have : ∃ b, b ∈ u.pts ∧ b ∉ t.pts := Classical.byContradiction fun n => no fun x hx => Classical.byContradiction fun q => n ⟨x, hx, q⟩
  obtain ⟨b, bu, bt⟩ := this
  obtain ⟨x, hx, y, hy, sx, sy, e⟩ := tree_conn fu pu wu (fun z => decide (z ∈ t.pts)) ⟨a, au, by simpa using at'⟩ ⟨b, bu, by simpa using bt⟩
  simp at sx sy
  have ne : x ≠ y := fun q => sy (q ▸ sx)
  have mx : x ∈ ptsL us := mem_ptsL.mpr ⟨u, hu, hx⟩
  have my : y ∈ ptsL us := mem_ptsL.mpr ⟨u, hu, hy⟩
  have g := ag x mx y my ne
  rw [tieL_in ndu hu hx hy, e] at g
  have o : tieL j ts x y = j := tieL_out fun v hv ⟨p, q⟩ => by
    obtain rfl := one_part ndt hv ht p sx
    exact sy q
  rw [o] at g
  cases j <;> cases g
theorem lt_same {α : Type} {f : α → Int} : ∀ {l m : List α}, (l.map f).Pairwise (· < ·) → (m.map f).Pairwise (· < ·) → (∀ x, x ∈ l ↔ x ∈ m) → l = m
  | [], [], _, _, _ => rfl
  | [], b :: m, _, _, h => absurd ((h b).mpr (by simp)) (by simp)
  | a :: l, [], _, _, h => absurd ((h a).mp (by simp)) (by simp)
  | a :: l, b :: m, hl, hm, h => by
    rw [List.map_cons, List.pairwise_cons] at hl hm
    have p : ∀ x ∈ l, f a < f x := fun x hx => hl.1 _ (List.mem_map_of_mem hx)
    have q : ∀ x ∈ m, f b < f x := fun x hx => hm.1 _ (List.mem_map_of_mem hx)
    have e : a = b := by
      rcases List.mem_cons.mp ((h a).mp (by simp)) with z | z
      · exact z
      · rcases List.mem_cons.mp ((h b).mpr (by simp)) with y | y
        · exact y.symm
        · have := q a z; have := p b y; omega
    subst e
    rw [lt_same hl.2 hm.2 fun x => ?_]
    constructor
    · intro hx
      rcases List.mem_cons.mp ((h x).mp (List.mem_cons_of_mem _ hx)) with z | z
      · subst z; have := p x hx; omega
      · exact z
    · intro hx
      rcases List.mem_cons.mp ((h x).mpr (List.mem_cons_of_mem _ hx)) with z | z
      · subst z; have := q x hx; omega
      · exact z
theorem parts_nd {ts : List Tr} (nd : (ptsL ts).Nodup) {t : Tr} (h : t ∈ ts) : t.pts.Nodup := by
  rw [ptsL_flat] at nd
  have : t.pts.Sublist (ts.flatMap Tr.pts) := by
    rw [List.flatMap_def]
    exact List.sublist_flatten_of_mem (List.mem_map_of_mem h)
  exact nd.sublist this
def OneT (t : Tr) : Prop := t.form → t.pts.Nodup → ∀ t' : Tr, t'.form → t'.pts.Perm t.pts → (∀ a ∈ t.pts, ∀ b ∈ t.pts, a ≠ b → t'.tie a b = t.tie a b) → t' = t
theorem two_pts {j : Bool} {ts : List Tr} (f : (Tr.nd j ts).form) : 2 ≤ (Tr.nd j ts).pts.length := by
  rw [Tr.form] at f
  match ts, f with
  | t :: u :: us, f =>
    have h1 := List.length_pos_iff.mpr (form_some (formL_iff.mp f.2.2 t (by simp)).1)
    have h2 := List.length_pos_iff.mpr (form_some (formL_iff.mp f.2.2 u (by simp)).1)
    rw [Tr.pts, ptsL, ptsL, List.length_append, List.length_append]
    omega
theorem one_step {j : Bool} {ts : List Tr} (ih : ∀ t ∈ ts, OneT t) : OneT (.nd j ts) := by
  intro f nd t' f' pm ag
  cases t' with
  | pt m =>
    have := two_pts f
    have := pm.length_eq
    rw [Tr.pts] at this
    simp at this
    omega
  | nd i us =>
    have ndt : (ptsL ts).Nodup := by rw [Tr.pts] at nd; exact nd
    have ndu : (ptsL us).Nodup := by have := pm.nodup_iff.mpr nd; rw [Tr.pts] at this; exact this
    have pl : (ptsL us).Perm (ptsL ts) := by rw [Tr.pts, Tr.pts] at pm; exact pm
    have ag' : ∀ a ∈ ptsL ts, ∀ b ∈ ptsL ts, a ≠ b → tieL i us a b = tieL j ts a b := by
      simp only [Tr.pts, Tr.tie] at ag
      exact ag
    have eij : i = j := by
      apply Classical.byContradiction
      intro ne
      have ei : i = !j := by cases i <;> cases j <;> simp_all
      have c := node_conn f ndt
      have f2 := f'
      rw [Tr.form] at f2
      match us, f2, ndu, pl, ag' with
      | u :: v :: us, f2, ndu, pl, ag' =>
        obtain ⟨a, ha⟩ := List.exists_mem_of_ne_nil _ (form_some (formL_iff.mp f2.2.2 u (by simp)).1)
        obtain ⟨b, hb⟩ := List.exists_mem_of_ne_nil _ (form_some (formL_iff.mp f2.2.2 v (by simp)).1)
        have nb : b ∉ u.pts := fun z => by
          have := nd_disj ndu (i := 0) (k := 1) rfl rfl z hb
          cases this
        obtain ⟨x, hx, y, hy, sx, sy, e⟩ := c (fun z => decide (z ∈ u.pts)) ⟨a, pl.mem_iff.mp (mem_ptsL.mpr ⟨u, by simp, ha⟩), by simpa using ha⟩ ⟨b, pl.mem_iff.mp (mem_ptsL.mpr ⟨v, by simp, hb⟩), by simpa using nb⟩
        simp at sx sy
        have ne2 : x ≠ y := fun q => sy (q ▸ sx)
        have g := ag' x hx y hy ne2
        have o : tieL i (u :: v :: us) x y = i := tieL_out fun w hw ⟨p, q⟩ => by
          obtain rfl := one_part ndu hw (List.mem_cons_self) p sx
          exact sy q
        rw [o, e] at g
        exact ne g
    subst eij
    rw [Tr.form] at f f'
    have ft := formL_iff.mp f.2.2
    have fu := formL_iff.mp f'.2.2
    have go : ∀ u ∈ us, ∀ t ∈ ts, ∀ a, a ∈ u.pts → a ∈ t.pts → u = t := fun u hu t ht a au at' => by
      have s1 := part_in (j := i) ndt ndu (fun x hx => pl.mem_iff.mp hx) (fun a ha b hb ne => ag' a (pl.mem_iff.mp ha) b (pl.mem_iff.mp hb) ne) hu ht (fu u hu).1 (fu u hu).2 (parts_nd ndu hu) au at'
      have s2 := part_in (j := i) ndu ndt (fun x hx => pl.mem_iff.mpr hx) (fun a ha b hb ne => (ag' a ha b hb ne).symm) ht hu (ft t ht).1 (ft t ht).2 (parts_nd ndt ht) at' au
      refine ih t ht (ft t ht).1 (parts_nd ndt ht) u (fu u hu).1 ((List.perm_ext_iff_of_nodup (parts_nd ndu hu) (parts_nd ndt ht)).mpr fun x => ⟨s1 x, s2 x⟩) fun x hx y hy ne => ?_
      have g := ag' x (mem_ptsL.mpr ⟨t, ht, hx⟩) y (mem_ptsL.mpr ⟨t, ht, hy⟩) ne
      rw [tieL_in ndu hu (s2 x hx) (s2 y hy), tieL_in ndt ht hx hy] at g
      exact g
    have e : us = ts := lt_same f'.2.1 f.2.1 fun x => by
      constructor
      · intro hx
        obtain ⟨a, ha⟩ := List.exists_mem_of_ne_nil _ (form_some (fu x hx).1)
        obtain ⟨t, ht, at'⟩ := mem_ptsL.mp (pl.mem_iff.mp (mem_ptsL.mpr ⟨x, hx, ha⟩))
        rw [go x hx t ht a ha at']; exact ht
      · intro hx
        obtain ⟨a, ha⟩ := List.exists_mem_of_ne_nil _ (form_some (ft x hx).1)
        obtain ⟨u, hu, au⟩ := mem_ptsL.mp (pl.mem_iff.mpr (mem_ptsL.mpr ⟨x, hx, ha⟩))
        rw [← go u hu x hx a au ha]; exact hu
    rw [e]
mutual
theorem one_tree : ∀ t : Tr, OneT t
  | .pt n => by
    intro _ _ t' f' pm _
    cases t' with
    | pt m =>
      rw [Tr.pts, Tr.pts] at pm
      have := pm.mem_iff (a := m)
      simp at this
      rw [this]
    | nd i us =>
      have := two_pts f'
      have e := pm.length_eq
      have e2 : (Tr.pt n).pts.length = 1 := by rw [Tr.pts]; rfl
      omega
  | .nd j ts => one_step (one_trees ts)
theorem one_trees : ∀ ts : List Tr, ∀ t ∈ ts, OneT t
  | [] => fun _ h => nomatch h
  | t :: ts => by
    have h0 := one_tree t
    have h1 := one_trees ts
    intro u hu
    rcases List.mem_cons.mp hu with rfl | hu
    · exact h0
    · exact h1 u hu
end
theorem Rch.congr {R R' : Int → Int → Bool} {j : Bool} {P : List Int} (h : ∀ a ∈ P, ∀ b ∈ P, R a b = R' a b) {a b : Int} (ha : a ∈ P) (r : Rch R j P a b) : b ∈ P ∧ Rch R' j P a b := by
  induction r with
  | here => exact ⟨ha, .here⟩
  | step _ hc e ih => exact ⟨hc, .step ih.2 hc (by rw [← h _ ih.1 _ hc]; exact e)⟩
theorem grp_congr {R R' : Int → Int → Bool} {j : Bool} {P : List Int} (h : ∀ a ∈ P, ∀ b ∈ P, R a b = R' a b) {a : Int} (ha : a ∈ P) : grp R j P a = grp R' j P a := by
  unfold grp
  refine List.filter_congr fun x hx => ?_
  rw [decide_eq_decide]
  exact ⟨fun r => (r.congr h ha).2, fun r => (r.congr (fun a ha b hb => (h a ha b hb).symm) ha).2⟩
theorem grps_in {R : Int → Int → Bool} {j : Bool} {P g : List Int} : g ∈ grps R j P → ∀ x ∈ g, x ∈ P := by
  revert g
  exact grps_ind (C := fun P gs => ∀ {g : List Int}, g ∈ gs → ∀ x ∈ g, x ∈ P) (fun h => nomatch h) (fun a l ih g hg x hx => by
    rw [grps_cons] at hg
    rcases List.mem_cons.mp hg with rfl | hg
    · exact grp_sub.subset hx
    · exact (List.mem_filter.mp (ih hg x hx)).1) P
theorem grps_congr {R R' : Int → Int → Bool} {j : Bool} : ∀ P : List Int, (∀ a ∈ P, ∀ b ∈ P, R a b = R' a b) → grps R j P = grps R' j P := grps_ind (C := fun P gs => (∀ a ∈ P, ∀ b ∈ P, R a b = R' a b) → gs = grps R' j P) (fun _ => grps_nil.symm) fun a l ih h => by
  rw [grps_cons (R := R), grps_cons (R := R'), ← grp_congr h (List.mem_cons_self), ih fun x hx y hy => h x (List.mem_filter.mp hx).1 y (List.mem_filter.mp hy).1]
theorem treeF_congr {R R' : Int → Int → Bool} : ∀ (n : Nat) (P : List Int), (∀ a ∈ P, ∀ b ∈ P, R a b = R' a b) → treeF R n P = treeF R' n P
  | 0, _, _ => rfl
  | n + 1, P, h => by
    rw [treeF, treeF, grps_congr P h, grps_congr P h]
    have go : ∀ j, (grps R' j P).map (treeF R n) = (grps R' j P).map (treeF R' n) := fun j => List.map_congr_left fun g hg => by
      have sub : ∀ x ∈ g, x ∈ P := by
        rw [← grps_congr P h] at hg
        exact grps_in hg
      exact treeF_congr n g fun a ha b hb => h a (sub a ha) b (sub b hb)
    rw [go, go]
/-- the tree of a tree's web is that tree -/
theorem treeF_is {R : Int → Int → Bool} {t : Tr} {P : List Int} {n : Nat} (f : t.form) (inc : P.Pairwise (· < ·)) (pm : t.pts.Perm P) (hn : P.length ≤ n) (ag : ∀ a ∈ P, ∀ b ∈ P, R a b = t.tie a b) : treeF R n P = t := by
  have nd : t.pts.Nodup := pm.nodup_iff.mpr (lt_nodup inc)
  rw [treeF_congr n P ag]
  have ne : P ≠ [] := fun e => by rw [e] at pm; exact form_some f pm.eq_nil
  have ok := treeF_ok (tie_sym t) n P hn ne inc ((tie_norow t nd).sub fun x hx => pm.mem_iff.mpr hx)
  exact one_tree t f nd _ ok.form (ok.pts.trans pm.symm) fun a ha b hb ne => ok.tie a (pm.mem_iff.mp ha) b (pm.mem_iff.mp hb) ne
end Jk

namespace Jk
open PySem L2 Evl
def top (i : Nat) : Stmt := PySem.Challenge.pw_joinside_k13_whole_kept.main.body.getD i (.Pass ⟨0, 0, 0, 0⟩)

abbrev s_NoTree_init : Stmt := inClass (top 7) 0
theorem sc_NoTree_init : FnScope ["self", "row"] ["self", "row"] (defScope s_NoTree_init) := ⟨rfl, rfl, rfl, by decide +kernel, rfl, by decide +kernel, by decide +kernel⟩

abbrev s_whole_within : Stmt := top 12
theorem sc_whole_within : FnScope ["number", "least", "most"] ["number", "least", "most"] (defScope s_whole_within) := ⟨rfl, rfl, rfl, by decide +kernel, rfl, by decide +kernel, by decide +kernel⟩

abbrev s_unlike_points : Stmt := top 13
theorem sc_unlike_points : FnScope ["points", "many", "point"] ["points", "many"] (defScope s_unlike_points) := ⟨rfl, rfl, rfl, by decide +kernel, rfl, by decide +kernel, by decide +kernel⟩

abbrev s_pairs : Stmt := top 14
theorem sc_pairs : FnScope ["many", "one", "other"] ["many"] (defScope s_pairs) := ⟨rfl, rfl, rfl, by decide +kernel, rfl, by decide +kernel, by decide +kernel⟩

abbrev s_Web_init : Stmt := inClass (top 15) 0
theorem sc_Web_init : FnScope ["self", "many", "point"] ["self", "many"] (defScope s_Web_init) := ⟨rfl, rfl, rfl, by decide +kernel, rfl, by decide +kernel, by decide +kernel⟩

abbrev s_Web_many : Stmt := inClass (top 15) 1
theorem sc_Web_many : FnScope ["self"] ["self"] (defScope s_Web_many) := ⟨rfl, rfl, rfl, by decide +kernel, rfl, by decide +kernel, by decide +kernel⟩

abbrev s_Web_has : Stmt := inClass (top 15) 2
theorem sc_Web_has : FnScope ["self", "one", "other"] ["self", "one", "other"] (defScope s_Web_has) := ⟨rfl, rfl, rfl, by decide +kernel, rfl, by decide +kernel, by decide +kernel⟩

abbrev s_Web_put : Stmt := inClass (top 15) 3
theorem sc_Web_put : FnScope ["self", "one", "other"] ["self", "one", "other"] (defScope s_Web_put) := ⟨rfl, rfl, rfl, by decide +kernel, rfl, by decide +kernel, by decide +kernel⟩

abbrev s_Web_take : Stmt := inClass (top 15) 4
theorem sc_Web_take : FnScope ["self", "one", "other"] ["self", "one", "other"] (defScope s_Web_take) := ⟨rfl, rfl, rfl, by decide +kernel, rfl, by decide +kernel, by decide +kernel⟩

abbrev s_Web_grow : Stmt := inClass (top 15) 5
theorem sc_Web_grow : FnScope ["self", "number"] ["self"] (defScope s_Web_grow) := ⟨rfl, rfl, rfl, by decide +kernel, rfl, by decide +kernel, by decide +kernel⟩

abbrev s_Web_beside : Stmt := inClass (top 15) 6
theorem sc_Web_beside : FnScope ["self", "point"] ["self", "point"] (defScope s_Web_beside) := ⟨rfl, rfl, rfl, by decide +kernel, rfl, by decide +kernel, by decide +kernel⟩

abbrev s_Web_ties : Stmt := inClass (top 15) 7
theorem sc_Web_ties : FnScope ["self", "one", "other"] ["self"] (defScope s_Web_ties) := ⟨rfl, rfl, rfl, by decide +kernel, rfl, by decide +kernel, by decide +kernel⟩

abbrev s_Web_need_point : Stmt := inClass (top 15) 8
theorem sc_Web_need_point : FnScope ["self", "point"] ["self", "point"] (defScope s_Web_need_point) := ⟨rfl, rfl, rfl, by decide +kernel, rfl, by decide +kernel, by decide +kernel⟩

abbrev s_part : Stmt := top 16
theorem sc_part : FnScope ["web", "points", "found", "one", "other"] ["web", "points"] (defScope s_part) := ⟨rfl, rfl, rfl, by decide +kernel, rfl, by decide +kernel, by decide +kernel⟩

abbrev s_row_in : Stmt := top 20
theorem sc_row_in : FnScope ["web", "near", "b", "c", "firsts", "lasts", "a", "d", "point"] ["web"] (defScope s_row_in) := ⟨rfl, rfl, rfl, by decide +kernel, rfl, by decide +kernel, by decide +kernel⟩

abbrev s_tree_of : Stmt := top 21
theorem sc_tree_of : FnScope ["web", "row"] ["web"] (defScope s_tree_of) := ⟨rfl, rfl, rfl, by decide +kernel, rfl, by decide +kernel, by decide +kernel⟩

abbrev s_near_each : Stmt := top 22
theorem sc_near_each : FnScope ["web", "point", "other"] ["web"] (defScope s_near_each) := ⟨rfl, rfl, rfl, by decide +kernel, rfl, by decide +kernel, by decide +kernel⟩

abbrev s_told_of : Stmt := top 23
theorem sc_told_of : FnScope ["near", "points", "word", "groups", "group"] ["near", "points"] (defScope s_told_of) := ⟨rfl, rfl, rfl, by decide +kernel, rfl, by decide +kernel, by decide +kernel⟩

abbrev s_groups : Stmt := top 24
theorem sc_groups : FnScope ["near", "points", "tied", "groups", "left", "group", "point"] ["near", "points", "tied"] (defScope s_groups) := ⟨rfl, rfl, rfl, by decide +kernel, rfl, by decide +kernel, by decide +kernel⟩

abbrev s_group_of : Stmt := top 25
theorem sc_group_of : FnScope ["near", "points", "tied", "met", "fresh", "point", "other"] ["near", "points", "tied"] (defScope s_group_of) := ⟨rfl, rfl, rfl, by decide +kernel, rfl, by decide +kernel, by decide +kernel⟩

abbrev s_Kept_init : Stmt := inClass (top 27) 0
theorem sc_Kept_init : FnScope ["self", "many"] ["self", "many"] (defScope s_Kept_init) := ⟨rfl, rfl, rfl, by decide +kernel, rfl, by decide +kernel, by decide +kernel⟩

abbrev s_Kept_put : Stmt := inClass (top 27) 1
theorem sc_Kept_put : FnScope ["self", "one", "other", "would_be"] ["self", "one", "other"] (defScope s_Kept_put) := ⟨rfl, rfl, rfl, by decide +kernel, rfl, by decide +kernel, by decide +kernel⟩

abbrev s_Kept_take : Stmt := inClass (top 27) 2
theorem sc_Kept_take : FnScope ["self", "one", "other", "would_be"] ["self", "one", "other"] (defScope s_Kept_take) := ⟨rfl, rfl, rfl, by decide +kernel, rfl, by decide +kernel, by decide +kernel⟩

abbrev s_Kept_grow : Stmt := inClass (top 27) 3
theorem sc_Kept_grow : FnScope ["self", "points", "would_be", "number", "point"] ["self", "points"] (defScope s_Kept_grow) := ⟨rfl, rfl, rfl, by decide +kernel, rfl, by decide +kernel, by decide +kernel⟩

abbrev s_Kept_tree : Stmt := inClass (top 27) 4
theorem sc_Kept_tree : FnScope ["self"] ["self"] (defScope s_Kept_tree) := ⟨rfl, rfl, rfl, by decide +kernel, rfl, by decide +kernel, by decide +kernel⟩

abbrev s_Kept_web : Stmt := inClass (top 27) 5
theorem sc_Kept_web : FnScope ["self"] ["self"] (defScope s_Kept_web) := ⟨rfl, rfl, rfl, by decide +kernel, rfl, by decide +kernel, by decide +kernel⟩

abbrev s_Kept_become : Stmt := inClass (top 27) 6
theorem sc_Kept_become : FnScope ["self", "would_be", "row"] ["self", "would_be"] (defScope s_Kept_become) := ⟨rfl, rfl, rfl, by decide +kernel, rfl, by decide +kernel, by decide +kernel⟩

abbrev s_l_mixed : Stmt := top 29
theorem sc_l_mixed : FnScope ["_law_cell", "_law_k", "_law_number_here"] ["_law_cell", "_law_k"] (defScope s_l_mixed) := ⟨rfl, rfl, rfl, by decide +kernel, rfl, by decide +kernel, by decide +kernel⟩

abbrev s_l_number : Stmt := top 30
theorem sc_l_number : FnScope ["_law_script", "_law_k", "_law_cell"] ["_law_script", "_law_k"] (defScope s_l_number) := ⟨rfl, rfl, rfl, by decide +kernel, rfl, by decide +kernel, by decide +kernel⟩

abbrev s_l_kind : Stmt := top 31
theorem sc_l_kind : FnScope ["_law_e", "_law_found"] ["_law_e"] (defScope s_l_kind) := ⟨rfl, rfl, rfl, by decide +kernel, rfl, by decide +kernel, by decide +kernel⟩

abbrev s_l_whole : Stmt := top 32
theorem sc_l_whole : FnScope ["_law_thing"] ["_law_thing"] (defScope s_l_whole) := ⟨rfl, rfl, rfl, by decide +kernel, rfl, by decide +kernel, by decide +kernel⟩

abbrev s_l_least : Stmt := top 33
theorem sc_l_least : FnScope ["_law_told"] ["_law_told"] (defScope s_l_least) := ⟨rfl, rfl, rfl, by decide +kernel, rfl, by decide +kernel, by decide +kernel⟩

abbrev s_l_points : Stmt := top 34
theorem sc_l_points : FnScope ["_law_told", "_law_found", "_law_piece"] ["_law_told"] (defScope s_l_points) := ⟨rfl, rfl, rfl, by decide +kernel, rfl, by decide +kernel, by decide +kernel⟩

abbrev s_l_ties : Stmt := top 35
theorem sc_l_ties : FnScope ["_law_told", "_law_found", "_law_ahead", "_law_piece", "_law_points_here", "_law_one", "_law_other"] ["_law_told"] (defScope s_l_ties) := ⟨rfl, rfl, rfl, by decide +kernel, rfl, by decide +kernel, by decide +kernel⟩

abbrev s_l_is_tree : Stmt := top 36
theorem sc_l_is_tree : FnScope ["_law_told", "_law_many", "_law_ties_here"] ["_law_told", "_law_many", "_law_ties_here"] (defScope s_l_is_tree) := ⟨rfl, rfl, rfl, by decide +kernel, rfl, by decide +kernel, by decide +kernel⟩

abbrev s_l_form : Stmt := top 37
theorem sc_l_form : FnScope ["_law_told", "_law_leasts", "_law_piece"] ["_law_told"] (defScope s_l_form) := ⟨rfl, rfl, rfl, by decide +kernel, rfl, by decide +kernel, by decide +kernel⟩

abbrev s_l_is_row : Stmt := top 38
theorem sc_l_is_row : FnScope ["_law_row", "_law_many", "_law_ties_here", "_law_found", "_law_at", "_law_before", "_law_point"] ["_law_row", "_law_many", "_law_ties_here"] (defScope s_l_is_row) := ⟨rfl, rfl, rfl, by decide +kernel, rfl, by decide +kernel, by decide +kernel⟩

abbrev s_l_near : Stmt := top 39
theorem sc_l_near : FnScope ["_law_many", "_law_ties_here", "_law_near_here", "_law_one", "_law_other", "_law_point"] ["_law_many", "_law_ties_here"] (defScope s_l_near) := ⟨rfl, rfl, rfl, by decide +kernel, rfl, by decide +kernel, by decide +kernel⟩

abbrev s_l_has_row : Stmt := top 40
theorem sc_l_has_row : FnScope ["_law_many", "_law_ties_here", "_law_near_here", "_law_pair", "_law_two", "_law_three", "_law_last", "_law_first", "_law_point"] ["_law_many", "_law_ties_here"] (defScope s_l_has_row) := ⟨rfl, rfl, rfl, by decide +kernel, rfl, by decide +kernel, by decide +kernel⟩

abbrev s_l_is_point : Stmt := top 41
theorem sc_l_is_point : FnScope ["_law_own", "_law_thing"] ["_law_own", "_law_thing"] (defScope s_l_is_point) := ⟨rfl, rfl, rfl, by decide +kernel, rfl, by decide +kernel, by decide +kernel⟩

abbrev s_l_due : Stmt := top 42
theorem sc_l_due : FnScope ["_law_own", "_law_deed_here", "_law_word", "_law_one", "_law_other", "_law_tie", "_law_at", "_law_pair", "_law_point"] ["_law_own", "_law_deed_here"] (defScope s_l_due) := ⟨rfl, rfl, rfl, by decide +kernel, rfl, by decide +kernel, by decide +kernel⟩

abbrev s_l_said : Stmt := top 43
theorem sc_l_said : FnScope ["_law_kept", "_law_deed_here", "_law_error", "_law_told", "_law_e"] ["_law_kept", "_law_deed_here"] (defScope s_l_said) := ⟨rfl, rfl, rfl, by decide +kernel, rfl, by decide +kernel, by decide +kernel⟩

abbrev s_l_done : Stmt := top 44
theorem sc_l_done : FnScope ["_law_kept", "_law_own", "_law_deed_here", "_law_due_here", "_law_ties_here", "_law_error", "_law_told", "_law_many"] ["_law_kept", "_law_own", "_law_deed_here"] (defScope s_l_done) := ⟨rfl, rfl, rfl, by decide +kernel, rfl, by decide +kernel, by decide +kernel⟩

abbrev s_l_right : Stmt := top 45
theorem sc_l_right : FnScope ["_law_kept", "_law_own", "_law_web"] ["_law_kept", "_law_own"] (defScope s_l_right) := ⟨rfl, rfl, rfl, by decide +kernel, rfl, by decide +kernel, by decide +kernel⟩

abbrev s_l_deed : Stmt := top 46
theorem sc_l_deed : FnScope ["_law_own", "_law_cell", "_law_more", "_law_one", "_law_other", "_law_odd", "_law_way", "_law_pair", "_law_near_here", "_law_points_here", "_law_point"] ["_law_own", "_law_cell", "_law_more"] (defScope s_l_deed) := ⟨rfl, rfl, rfl, by decide +kernel, rfl, by decide +kernel, by decide +kernel⟩

abbrev s_l_size_refused : Stmt := top 47
theorem sc_l_size_refused : FnScope ["_law_thing", "_law_error", "_law_e"] ["_law_thing"] (defScope s_l_size_refused) := ⟨rfl, rfl, rfl, by decide +kernel, rfl, by decide +kernel, by decide +kernel⟩

abbrev s_law : Stmt := top 48
theorem sc_law : FnScope ["_law_script", "_law_odd", "_law_kepts", "_law_owns", "_law_k", "_law_number_here", "_law_many", "_law_cell", "_law_which", "_law_deed_here", "_law_handed"] ["_law_script"] (defScope s_law) := ⟨rfl, rfl, rfl, by decide +kernel, rfl, by decide +kernel, by decide +kernel⟩

structure Adr where
  a_NoTree_init : Addr
  d_NoTree_init : FuncData
  a_whole_within : Addr
  d_whole_within : FuncData
  a_unlike_points : Addr
  d_unlike_points : FuncData
  a_pairs : Addr
  d_pairs : FuncData
  a_Web_init : Addr
  d_Web_init : FuncData
  a_Web_many : Addr
  d_Web_many : FuncData
  a_Web_has : Addr
  d_Web_has : FuncData
  a_Web_put : Addr
  d_Web_put : FuncData
  a_Web_take : Addr
  d_Web_take : FuncData
  a_Web_grow : Addr
  d_Web_grow : FuncData
  a_Web_beside : Addr
  d_Web_beside : FuncData
  a_Web_ties : Addr
  d_Web_ties : FuncData
  a_Web_need_point : Addr
  d_Web_need_point : FuncData
  a_part : Addr
  d_part : FuncData
  a_row_in : Addr
  d_row_in : FuncData
  a_tree_of : Addr
  d_tree_of : FuncData
  a_near_each : Addr
  d_near_each : FuncData
  a_told_of : Addr
  d_told_of : FuncData
  a_groups : Addr
  d_groups : FuncData
  a_group_of : Addr
  d_group_of : FuncData
  a_Kept_init : Addr
  d_Kept_init : FuncData
  a_Kept_put : Addr
  d_Kept_put : FuncData
  a_Kept_take : Addr
  d_Kept_take : FuncData
  a_Kept_grow : Addr
  d_Kept_grow : FuncData
  a_Kept_tree : Addr
  d_Kept_tree : FuncData
  a_Kept_web : Addr
  d_Kept_web : FuncData
  a_Kept_become : Addr
  d_Kept_become : FuncData
  a_l_mixed : Addr
  d_l_mixed : FuncData
  a_l_number : Addr
  d_l_number : FuncData
  a_l_kind : Addr
  d_l_kind : FuncData
  a_l_whole : Addr
  d_l_whole : FuncData
  a_l_least : Addr
  d_l_least : FuncData
  a_l_points : Addr
  d_l_points : FuncData
  a_l_ties : Addr
  d_l_ties : FuncData
  a_l_is_tree : Addr
  d_l_is_tree : FuncData
  a_l_form : Addr
  d_l_form : FuncData
  a_l_is_row : Addr
  d_l_is_row : FuncData
  a_l_near : Addr
  d_l_near : FuncData
  a_l_has_row : Addr
  d_l_has_row : FuncData
  a_l_is_point : Addr
  d_l_is_point : FuncData
  a_l_due : Addr
  d_l_due : FuncData
  a_l_said : Addr
  d_l_said : FuncData
  a_l_done : Addr
  d_l_done : FuncData
  a_l_right : Addr
  d_l_right : FuncData
  a_l_deed : Addr
  d_l_deed : FuncData
  a_l_size_refused : Addr
  d_l_size_refused : FuncData
  a_law : Addr
  d_law : FuncData
  c_BadPoint : Addr
  c_BadSize : Addr
  c_BadText : Addr
  c_BadTree : Addr
  c_JoinError : Addr
  c_Kept : Addr
  c_NoTie : Addr
  c_NoTree : Addr
  c_TooMany : Addr
  c_Twice : Addr
  c_Web : Addr

structure Txt (K : PySem.W.Frag) (mg : Str → Option Value) (A : Adr) : Prop where
  b_NoTree_init : L2.Binds K A.d_NoTree_init ["self", "row"] []
  F_NoTree_init : Fun K "__init__" "NoTree.__init__" s_NoTree_init A.a_NoTree_init A.d_NoTree_init
  g_whole_within : mg "whole_within" = some (.ref A.a_whole_within)
  k_whole_within : PySem.W.keepIn K (.ref A.a_whole_within) = true
  b_whole_within : L2.Binds K A.d_whole_within ["number", "least", "most"] []
  F_whole_within : Fun K "whole_within" "whole_within" s_whole_within A.a_whole_within A.d_whole_within
  g_unlike_points : mg "unlike_points" = some (.ref A.a_unlike_points)
  k_unlike_points : PySem.W.keepIn K (.ref A.a_unlike_points) = true
  b_unlike_points : L2.Binds K A.d_unlike_points ["points", "many"] []
  F_unlike_points : Fun K "unlike_points" "unlike_points" s_unlike_points A.a_unlike_points A.d_unlike_points
  g_pairs : mg "pairs" = some (.ref A.a_pairs)
  k_pairs : PySem.W.keepIn K (.ref A.a_pairs) = true
  b_pairs : L2.Binds K A.d_pairs ["many"] []
  F_pairs : Fun K "pairs" "pairs" s_pairs A.a_pairs A.d_pairs
  b_Web_init : L2.Binds K A.d_Web_init ["self", "many"] []
  F_Web_init : Fun K "__init__" "Web.__init__" s_Web_init A.a_Web_init A.d_Web_init
  m_Web_many : Meth K A.c_Web "many" A.a_Web_many
  b_Web_many : L2.Binds K A.d_Web_many ["self"] []
  F_Web_many : Fun K "many" "Web.many" s_Web_many A.a_Web_many A.d_Web_many
  m_Web_has : Meth K A.c_Web "has" A.a_Web_has
  b_Web_has : L2.Binds K A.d_Web_has ["self", "one", "other"] []
  F_Web_has : Fun K "has" "Web.has" s_Web_has A.a_Web_has A.d_Web_has
  m_Web_put : Meth K A.c_Web "put" A.a_Web_put
  b_Web_put : L2.Binds K A.d_Web_put ["self", "one", "other"] []
  F_Web_put : Fun K "put" "Web.put" s_Web_put A.a_Web_put A.d_Web_put
  m_Web_take : Meth K A.c_Web "take" A.a_Web_take
  b_Web_take : L2.Binds K A.d_Web_take ["self", "one", "other"] []
  F_Web_take : Fun K "take" "Web.take" s_Web_take A.a_Web_take A.d_Web_take
  m_Web_grow : Meth K A.c_Web "grow" A.a_Web_grow
  b_Web_grow : L2.Binds K A.d_Web_grow ["self"] []
  F_Web_grow : Fun K "grow" "Web.grow" s_Web_grow A.a_Web_grow A.d_Web_grow
  m_Web_beside : Meth K A.c_Web "beside" A.a_Web_beside
  b_Web_beside : L2.Binds K A.d_Web_beside ["self", "point"] []
  F_Web_beside : Fun K "beside" "Web.beside" s_Web_beside A.a_Web_beside A.d_Web_beside
  m_Web_ties : Meth K A.c_Web "ties" A.a_Web_ties
  b_Web_ties : L2.Binds K A.d_Web_ties ["self"] []
  F_Web_ties : Fun K "ties" "Web.ties" s_Web_ties A.a_Web_ties A.d_Web_ties
  m_Web_need_point : Meth K A.c_Web "_need_point" A.a_Web_need_point
  b_Web_need_point : L2.Binds K A.d_Web_need_point ["self", "point"] []
  F_Web_need_point : Fun K "_need_point" "Web._need_point" s_Web_need_point A.a_Web_need_point A.d_Web_need_point
  g_part : mg "part" = some (.ref A.a_part)
  k_part : PySem.W.keepIn K (.ref A.a_part) = true
  b_part : L2.Binds K A.d_part ["web", "points"] []
  F_part : Fun K "part" "part" s_part A.a_part A.d_part
  g_row_in : mg "row_in" = some (.ref A.a_row_in)
  k_row_in : PySem.W.keepIn K (.ref A.a_row_in) = true
  b_row_in : L2.Binds K A.d_row_in ["web"] []
  F_row_in : Fun K "row_in" "row_in" s_row_in A.a_row_in A.d_row_in
  g_tree_of : mg "tree_of" = some (.ref A.a_tree_of)
  k_tree_of : PySem.W.keepIn K (.ref A.a_tree_of) = true
  b_tree_of : L2.Binds K A.d_tree_of ["web"] []
  F_tree_of : Fun K "tree_of" "tree_of" s_tree_of A.a_tree_of A.d_tree_of
  g_near_each : mg "_near_each" = some (.ref A.a_near_each)
  k_near_each : PySem.W.keepIn K (.ref A.a_near_each) = true
  b_near_each : L2.Binds K A.d_near_each ["web"] []
  F_near_each : Fun K "_near_each" "_near_each" s_near_each A.a_near_each A.d_near_each
  g_told_of : mg "_told_of" = some (.ref A.a_told_of)
  k_told_of : PySem.W.keepIn K (.ref A.a_told_of) = true
  b_told_of : L2.Binds K A.d_told_of ["near", "points"] []
  F_told_of : Fun K "_told_of" "_told_of" s_told_of A.a_told_of A.d_told_of
  g_groups : mg "_groups" = some (.ref A.a_groups)
  k_groups : PySem.W.keepIn K (.ref A.a_groups) = true
  b_groups : L2.Binds K A.d_groups ["near", "points", "tied"] []
  F_groups : Fun K "_groups" "_groups" s_groups A.a_groups A.d_groups
  g_group_of : mg "_group_of" = some (.ref A.a_group_of)
  k_group_of : PySem.W.keepIn K (.ref A.a_group_of) = true
  b_group_of : L2.Binds K A.d_group_of ["near", "points", "tied"] []
  F_group_of : Fun K "_group_of" "_group_of" s_group_of A.a_group_of A.d_group_of
  b_Kept_init : L2.Binds K A.d_Kept_init ["self", "many"] []
  F_Kept_init : Fun K "__init__" "Kept.__init__" s_Kept_init A.a_Kept_init A.d_Kept_init
  m_Kept_put : Meth K A.c_Kept "put" A.a_Kept_put
  b_Kept_put : L2.Binds K A.d_Kept_put ["self", "one", "other"] []
  F_Kept_put : Fun K "put" "Kept.put" s_Kept_put A.a_Kept_put A.d_Kept_put
  m_Kept_take : Meth K A.c_Kept "take" A.a_Kept_take
  b_Kept_take : L2.Binds K A.d_Kept_take ["self", "one", "other"] []
  F_Kept_take : Fun K "take" "Kept.take" s_Kept_take A.a_Kept_take A.d_Kept_take
  m_Kept_grow : Meth K A.c_Kept "grow" A.a_Kept_grow
  b_Kept_grow : L2.Binds K A.d_Kept_grow ["self", "points"] []
  F_Kept_grow : Fun K "grow" "Kept.grow" s_Kept_grow A.a_Kept_grow A.d_Kept_grow
  m_Kept_tree : Meth K A.c_Kept "tree" A.a_Kept_tree
  b_Kept_tree : L2.Binds K A.d_Kept_tree ["self"] []
  F_Kept_tree : Fun K "tree" "Kept.tree" s_Kept_tree A.a_Kept_tree A.d_Kept_tree
  m_Kept_web : Meth K A.c_Kept "web" A.a_Kept_web
  b_Kept_web : L2.Binds K A.d_Kept_web ["self"] []
  F_Kept_web : Fun K "web" "Kept.web" s_Kept_web A.a_Kept_web A.d_Kept_web
  m_Kept_become : Meth K A.c_Kept "_become" A.a_Kept_become
  b_Kept_become : L2.Binds K A.d_Kept_become ["self", "would_be"] []
  F_Kept_become : Fun K "_become" "Kept._become" s_Kept_become A.a_Kept_become A.d_Kept_become
  g_l_mixed : mg "_law_mixed" = some (.ref A.a_l_mixed)
  k_l_mixed : PySem.W.keepIn K (.ref A.a_l_mixed) = true
  b_l_mixed : L2.Binds K A.d_l_mixed ["_law_cell", "_law_k"] []
  F_l_mixed : Fun K "_law_mixed" "_law_mixed" s_l_mixed A.a_l_mixed A.d_l_mixed
  g_l_number : mg "_law_number" = some (.ref A.a_l_number)
  k_l_number : PySem.W.keepIn K (.ref A.a_l_number) = true
  b_l_number : L2.Binds K A.d_l_number ["_law_script", "_law_k"] []
  F_l_number : Fun K "_law_number" "_law_number" s_l_number A.a_l_number A.d_l_number
  g_l_kind : mg "_law_kind" = some (.ref A.a_l_kind)
  k_l_kind : PySem.W.keepIn K (.ref A.a_l_kind) = true
  b_l_kind : L2.Binds K A.d_l_kind ["_law_e"] []
  F_l_kind : Fun K "_law_kind" "_law_kind" s_l_kind A.a_l_kind A.d_l_kind
  g_l_whole : mg "_law_whole" = some (.ref A.a_l_whole)
  k_l_whole : PySem.W.keepIn K (.ref A.a_l_whole) = true
  b_l_whole : L2.Binds K A.d_l_whole ["_law_thing"] []
  F_l_whole : Fun K "_law_whole" "_law_whole" s_l_whole A.a_l_whole A.d_l_whole
  g_l_least : mg "_law_least" = some (.ref A.a_l_least)
  k_l_least : PySem.W.keepIn K (.ref A.a_l_least) = true
  b_l_least : L2.Binds K A.d_l_least ["_law_told"] []
  F_l_least : Fun K "_law_least" "_law_least" s_l_least A.a_l_least A.d_l_least
  g_l_points : mg "_law_points" = some (.ref A.a_l_points)
  k_l_points : PySem.W.keepIn K (.ref A.a_l_points) = true
  b_l_points : L2.Binds K A.d_l_points ["_law_told"] []
  F_l_points : Fun K "_law_points" "_law_points" s_l_points A.a_l_points A.d_l_points
  g_l_ties : mg "_law_ties" = some (.ref A.a_l_ties)
  k_l_ties : PySem.W.keepIn K (.ref A.a_l_ties) = true
  b_l_ties : L2.Binds K A.d_l_ties ["_law_told"] []
  F_l_ties : Fun K "_law_ties" "_law_ties" s_l_ties A.a_l_ties A.d_l_ties
  g_l_is_tree : mg "_law_is_tree" = some (.ref A.a_l_is_tree)
  k_l_is_tree : PySem.W.keepIn K (.ref A.a_l_is_tree) = true
  b_l_is_tree : L2.Binds K A.d_l_is_tree ["_law_told", "_law_many", "_law_ties_here"] []
  F_l_is_tree : Fun K "_law_is_tree" "_law_is_tree" s_l_is_tree A.a_l_is_tree A.d_l_is_tree
  g_l_form : mg "_law_form" = some (.ref A.a_l_form)
  k_l_form : PySem.W.keepIn K (.ref A.a_l_form) = true
  b_l_form : L2.Binds K A.d_l_form ["_law_told"] []
  F_l_form : Fun K "_law_form" "_law_form" s_l_form A.a_l_form A.d_l_form
  g_l_is_row : mg "_law_is_row" = some (.ref A.a_l_is_row)
  k_l_is_row : PySem.W.keepIn K (.ref A.a_l_is_row) = true
  b_l_is_row : L2.Binds K A.d_l_is_row ["_law_row", "_law_many", "_law_ties_here"] []
  F_l_is_row : Fun K "_law_is_row" "_law_is_row" s_l_is_row A.a_l_is_row A.d_l_is_row
  g_l_near : mg "_law_near" = some (.ref A.a_l_near)
  k_l_near : PySem.W.keepIn K (.ref A.a_l_near) = true
  b_l_near : L2.Binds K A.d_l_near ["_law_many", "_law_ties_here"] []
  F_l_near : Fun K "_law_near" "_law_near" s_l_near A.a_l_near A.d_l_near
  g_l_has_row : mg "_law_has_row" = some (.ref A.a_l_has_row)
  k_l_has_row : PySem.W.keepIn K (.ref A.a_l_has_row) = true
  b_l_has_row : L2.Binds K A.d_l_has_row ["_law_many", "_law_ties_here"] []
  F_l_has_row : Fun K "_law_has_row" "_law_has_row" s_l_has_row A.a_l_has_row A.d_l_has_row
  g_l_is_point : mg "_law_is_point" = some (.ref A.a_l_is_point)
  k_l_is_point : PySem.W.keepIn K (.ref A.a_l_is_point) = true
  b_l_is_point : L2.Binds K A.d_l_is_point ["_law_own", "_law_thing"] []
  F_l_is_point : Fun K "_law_is_point" "_law_is_point" s_l_is_point A.a_l_is_point A.d_l_is_point
  g_l_due : mg "_law_due" = some (.ref A.a_l_due)
  k_l_due : PySem.W.keepIn K (.ref A.a_l_due) = true
  b_l_due : L2.Binds K A.d_l_due ["_law_own", "_law_deed_here"] []
  F_l_due : Fun K "_law_due" "_law_due" s_l_due A.a_l_due A.d_l_due
  g_l_said : mg "_law_said" = some (.ref A.a_l_said)
  k_l_said : PySem.W.keepIn K (.ref A.a_l_said) = true
  b_l_said : L2.Binds K A.d_l_said ["_law_kept", "_law_deed_here"] []
  F_l_said : Fun K "_law_said" "_law_said" s_l_said A.a_l_said A.d_l_said
  g_l_done : mg "_law_done" = some (.ref A.a_l_done)
  k_l_done : PySem.W.keepIn K (.ref A.a_l_done) = true
  b_l_done : L2.Binds K A.d_l_done ["_law_kept", "_law_own", "_law_deed_here"] []
  F_l_done : Fun K "_law_done" "_law_done" s_l_done A.a_l_done A.d_l_done
  g_l_right : mg "_law_right" = some (.ref A.a_l_right)
  k_l_right : PySem.W.keepIn K (.ref A.a_l_right) = true
  b_l_right : L2.Binds K A.d_l_right ["_law_kept", "_law_own"] []
  F_l_right : Fun K "_law_right" "_law_right" s_l_right A.a_l_right A.d_l_right
  g_l_deed : mg "_law_deed" = some (.ref A.a_l_deed)
  k_l_deed : PySem.W.keepIn K (.ref A.a_l_deed) = true
  b_l_deed : L2.Binds K A.d_l_deed ["_law_own", "_law_cell", "_law_more"] []
  F_l_deed : Fun K "_law_deed" "_law_deed" s_l_deed A.a_l_deed A.d_l_deed
  g_l_size_refused : mg "_law_size_refused" = some (.ref A.a_l_size_refused)
  k_l_size_refused : PySem.W.keepIn K (.ref A.a_l_size_refused) = true
  b_l_size_refused : L2.Binds K A.d_l_size_refused ["_law_thing"] []
  F_l_size_refused : Fun K "_law_size_refused" "_law_size_refused" s_l_size_refused A.a_l_size_refused A.d_l_size_refused
  g_law : mg "law" = some (.ref A.a_law)
  k_law : PySem.W.keepIn K (.ref A.a_law) = true
  b_law : L2.Binds K A.d_law ["_law_script"] []
  F_law : Fun K "law" "law" s_law A.a_law A.d_law
  cl_Kept : Cls K A.c_Kept
  mk_Kept : Mk K A.c_Kept A.a_Kept_init
  n_Kept__web : NoAttr K A.c_Kept "_web"
  cl_Web : Cls K A.c_Web
  mk_Web : Mk K A.c_Web A.a_Web_init
  n_Web__near : NoAttr K A.c_Web "_near"
  gBadPoint : mg "BadPoint" = some (.ref A.c_BadPoint)
  gBadSize : mg "BadSize" = some (.ref A.c_BadSize)
  gBadText : mg "BadText" = some (.ref A.c_BadText)
  gBadTree : mg "BadTree" = some (.ref A.c_BadTree)
  gJoinError : mg "JoinError" = some (.ref A.c_JoinError)
  gKept : mg "Kept" = some (.ref A.c_Kept)
  gNoTie : mg "NoTie" = some (.ref A.c_NoTie)
  gNoTree : mg "NoTree" = some (.ref A.c_NoTree)
  gTooMany : mg "TooMany" = some (.ref A.c_TooMany)
  gTwice : mg "Twice" = some (.ref A.c_Twice)
  gWeb : mg "Web" = some (.ref A.c_Web)
  xBadSize : PySem.W.excIn K A.c_BadSize [.type "ValueError", .type "Exception", .type "BaseException", .type "object"] "ValueError.__new__" = true
  kBadSize : PySem.W.keepIn K (.ref A.c_BadSize) = true
  bBadSize : PySem.W.subIn K (.ref A.c_BadSize) (.type "BaseException") = some true
  tBadSize : PySem.W.typeIn K (.ref A.c_BadSize) = some (.type "type")
  xBadPoint : PySem.W.excIn K A.c_BadPoint [.type "ValueError", .type "Exception", .type "BaseException", .type "object"] "ValueError.__new__" = true
  kBadPoint : PySem.W.keepIn K (.ref A.c_BadPoint) = true
  bBadPoint : PySem.W.subIn K (.ref A.c_BadPoint) (.type "BaseException") = some true
  tBadPoint : PySem.W.typeIn K (.ref A.c_BadPoint) = some (.type "type")
  xTwice : PySem.W.excIn K A.c_Twice [.type "ValueError", .type "Exception", .type "BaseException", .type "object"] "ValueError.__new__" = true
  kTwice : PySem.W.keepIn K (.ref A.c_Twice) = true
  bTwice : PySem.W.subIn K (.ref A.c_Twice) (.type "BaseException") = some true
  tTwice : PySem.W.typeIn K (.ref A.c_Twice) = some (.type "type")
  xNoTie : PySem.W.excIn K A.c_NoTie [.type "ValueError", .type "Exception", .type "BaseException", .type "object"] "ValueError.__new__" = true
  kNoTie : PySem.W.keepIn K (.ref A.c_NoTie) = true
  bNoTie : PySem.W.subIn K (.ref A.c_NoTie) (.type "BaseException") = some true
  tNoTie : PySem.W.typeIn K (.ref A.c_NoTie) = some (.type "type")
  xTooMany : PySem.W.excIn K A.c_TooMany [.type "ValueError", .type "Exception", .type "BaseException", .type "object"] "ValueError.__new__" = true
  kTooMany : PySem.W.keepIn K (.ref A.c_TooMany) = true
  bTooMany : PySem.W.subIn K (.ref A.c_TooMany) (.type "BaseException") = some true
  tTooMany : PySem.W.typeIn K (.ref A.c_TooMany) = some (.type "type")
  hb_JoinError : PySem.W.subIn K (.ref A.c_JoinError) (.type "BaseException") = some true
  hd_JoinError : PySem.W.hasDictIn K A.c_JoinError = true
  ht_JoinError : PySem.W.typeIn K (.ref A.c_JoinError) = some (.type "type")
  su_BadSize_JoinError : PySem.W.subIn K (.ref A.c_BadSize) (.ref A.c_JoinError) = some true
  su_BadPoint_JoinError : PySem.W.subIn K (.ref A.c_BadPoint) (.ref A.c_JoinError) = some true
  su_Twice_JoinError : PySem.W.subIn K (.ref A.c_Twice) (.ref A.c_JoinError) = some true
  su_NoTie_JoinError : PySem.W.subIn K (.ref A.c_NoTie) (.ref A.c_JoinError) = some true
  su_TooMany_JoinError : PySem.W.subIn K (.ref A.c_TooMany) (.ref A.c_JoinError) = some true
  ec_BadSize : ExcC K A.c_BadSize
  is_BadSize_BadSize : PySem.W.kitOne K (.ref A.c_BadSize) (.ref A.c_BadSize) = some true
  is_BadSize_BadPoint : PySem.W.kitOne K (.ref A.c_BadSize) (.ref A.c_BadPoint) = some false
  is_BadSize_Twice : PySem.W.kitOne K (.ref A.c_BadSize) (.ref A.c_Twice) = some false
  is_BadSize_NoTie : PySem.W.kitOne K (.ref A.c_BadSize) (.ref A.c_NoTie) = some false
  is_BadSize_TooMany : PySem.W.kitOne K (.ref A.c_BadSize) (.ref A.c_TooMany) = some false
  is_BadSize_NoTree : PySem.W.kitOne K (.ref A.c_BadSize) (.ref A.c_NoTree) = some false
  is_BadSize_BadTree : PySem.W.kitOne K (.ref A.c_BadSize) (.ref A.c_BadTree) = some false
  is_BadSize_BadText : PySem.W.kitOne K (.ref A.c_BadSize) (.ref A.c_BadText) = some false
  is_BadSize_ValueError : PySem.W.kitOne K (.ref A.c_BadSize) (.type "ValueError") = some true
  ec_BadPoint : ExcC K A.c_BadPoint
  is_BadPoint_BadSize : PySem.W.kitOne K (.ref A.c_BadPoint) (.ref A.c_BadSize) = some false
  is_BadPoint_BadPoint : PySem.W.kitOne K (.ref A.c_BadPoint) (.ref A.c_BadPoint) = some true
  is_BadPoint_Twice : PySem.W.kitOne K (.ref A.c_BadPoint) (.ref A.c_Twice) = some false
  is_BadPoint_NoTie : PySem.W.kitOne K (.ref A.c_BadPoint) (.ref A.c_NoTie) = some false
  is_BadPoint_TooMany : PySem.W.kitOne K (.ref A.c_BadPoint) (.ref A.c_TooMany) = some false
  is_BadPoint_NoTree : PySem.W.kitOne K (.ref A.c_BadPoint) (.ref A.c_NoTree) = some false
  is_BadPoint_BadTree : PySem.W.kitOne K (.ref A.c_BadPoint) (.ref A.c_BadTree) = some false
  is_BadPoint_BadText : PySem.W.kitOne K (.ref A.c_BadPoint) (.ref A.c_BadText) = some false
  is_BadPoint_ValueError : PySem.W.kitOne K (.ref A.c_BadPoint) (.type "ValueError") = some true
  ec_Twice : ExcC K A.c_Twice
  is_Twice_BadSize : PySem.W.kitOne K (.ref A.c_Twice) (.ref A.c_BadSize) = some false
  is_Twice_BadPoint : PySem.W.kitOne K (.ref A.c_Twice) (.ref A.c_BadPoint) = some false
  is_Twice_Twice : PySem.W.kitOne K (.ref A.c_Twice) (.ref A.c_Twice) = some true
  is_Twice_NoTie : PySem.W.kitOne K (.ref A.c_Twice) (.ref A.c_NoTie) = some false
  is_Twice_TooMany : PySem.W.kitOne K (.ref A.c_Twice) (.ref A.c_TooMany) = some false
  is_Twice_NoTree : PySem.W.kitOne K (.ref A.c_Twice) (.ref A.c_NoTree) = some false
  is_Twice_BadTree : PySem.W.kitOne K (.ref A.c_Twice) (.ref A.c_BadTree) = some false
  is_Twice_BadText : PySem.W.kitOne K (.ref A.c_Twice) (.ref A.c_BadText) = some false
  is_Twice_ValueError : PySem.W.kitOne K (.ref A.c_Twice) (.type "ValueError") = some true
  ec_NoTie : ExcC K A.c_NoTie
  is_NoTie_BadSize : PySem.W.kitOne K (.ref A.c_NoTie) (.ref A.c_BadSize) = some false
  is_NoTie_BadPoint : PySem.W.kitOne K (.ref A.c_NoTie) (.ref A.c_BadPoint) = some false
  is_NoTie_Twice : PySem.W.kitOne K (.ref A.c_NoTie) (.ref A.c_Twice) = some false
  is_NoTie_NoTie : PySem.W.kitOne K (.ref A.c_NoTie) (.ref A.c_NoTie) = some true
  is_NoTie_TooMany : PySem.W.kitOne K (.ref A.c_NoTie) (.ref A.c_TooMany) = some false
  is_NoTie_NoTree : PySem.W.kitOne K (.ref A.c_NoTie) (.ref A.c_NoTree) = some false
  is_NoTie_BadTree : PySem.W.kitOne K (.ref A.c_NoTie) (.ref A.c_BadTree) = some false
  is_NoTie_BadText : PySem.W.kitOne K (.ref A.c_NoTie) (.ref A.c_BadText) = some false
  is_NoTie_ValueError : PySem.W.kitOne K (.ref A.c_NoTie) (.type "ValueError") = some true
  ec_TooMany : ExcC K A.c_TooMany
  is_TooMany_BadSize : PySem.W.kitOne K (.ref A.c_TooMany) (.ref A.c_BadSize) = some false
  is_TooMany_BadPoint : PySem.W.kitOne K (.ref A.c_TooMany) (.ref A.c_BadPoint) = some false
  is_TooMany_Twice : PySem.W.kitOne K (.ref A.c_TooMany) (.ref A.c_Twice) = some false
  is_TooMany_NoTie : PySem.W.kitOne K (.ref A.c_TooMany) (.ref A.c_NoTie) = some false
  is_TooMany_TooMany : PySem.W.kitOne K (.ref A.c_TooMany) (.ref A.c_TooMany) = some true
  is_TooMany_NoTree : PySem.W.kitOne K (.ref A.c_TooMany) (.ref A.c_NoTree) = some false
  is_TooMany_BadTree : PySem.W.kitOne K (.ref A.c_TooMany) (.ref A.c_BadTree) = some false
  is_TooMany_BadText : PySem.W.kitOne K (.ref A.c_TooMany) (.ref A.c_BadText) = some false
  is_TooMany_ValueError : PySem.W.kitOne K (.ref A.c_TooMany) (.type "ValueError") = some true
  nt : NtTxt K mg A.c_NoTree A.a_NoTree_init
  xf_NoTree : XfC K A.c_NoTree
  su_NoTree_JoinError : PySem.W.subIn K (.ref A.c_NoTree) (.ref A.c_JoinError) = some true
  ec_NoTree : ExcC K A.c_NoTree
  is_NoTree_BadSize : PySem.W.kitOne K (.ref A.c_NoTree) (.ref A.c_BadSize) = some false
  is_NoTree_BadPoint : PySem.W.kitOne K (.ref A.c_NoTree) (.ref A.c_BadPoint) = some false
  is_NoTree_Twice : PySem.W.kitOne K (.ref A.c_NoTree) (.ref A.c_Twice) = some false
  is_NoTree_NoTie : PySem.W.kitOne K (.ref A.c_NoTree) (.ref A.c_NoTie) = some false
  is_NoTree_TooMany : PySem.W.kitOne K (.ref A.c_NoTree) (.ref A.c_TooMany) = some false
  is_NoTree_NoTree : PySem.W.kitOne K (.ref A.c_NoTree) (.ref A.c_NoTree) = some true
  is_NoTree_BadTree : PySem.W.kitOne K (.ref A.c_NoTree) (.ref A.c_BadTree) = some false
  is_NoTree_BadText : PySem.W.kitOne K (.ref A.c_NoTree) (.ref A.c_BadText) = some false
  is_NoTree_ValueError : PySem.W.kitOne K (.ref A.c_NoTree) (.type "ValueError") = some true
  isa_Web : IsC K A.c_Web
  ValueError : mg "ValueError" = none
  all : mg "all" = none
  bool : mg "bool" = none
  int : mg "int" = none
  isinstance : mg "isinstance" = none
  len : mg "len" = none
  list : mg "list" = none
  max : mg "max" = none
  min : mg "min" = none
  range : mg "range" = none
  repr : mg "repr" = none
  set : mg "set" = none
  sorted : mg "sorted" = none
  tuple : mg "tuple" = none
  cMOST_POINTS : ∃ t, mg "MOST_POINTS" = some (.int (30) t)
  cSIDE : ∃ t, mg "SIDE" = some (.str "side" t)
  cJOIN : ∃ t, mg "JOIN" = some (.str "join" t)

end Jk

namespace Jk
open PySem L2 Evl
/-! ## numbers -/
def mixN (c k : Int) : Int := (c % 1000000007 + 7919 * k * k + 31 * k + 17) * 48271 % 2147483647
def mixed (c k : Int) : Int := mixN c k * (mixN c k % 65521 + 16807) % 2147483629 / 4
theorem mixed_nn (c k : Int) : 0 ≤ mixed c k := by unfold mixed; omega
theorem mixed_lt (c k : Int) : mixed c k < 600000000 := by unfold mixed; omega
def spMixed : Sp := fun vs H Q _ => ∃ (c k : Int), vs = [.int c, .int k] ∧ (0 ≤ k ∧ k ≤ 100000) ∧ Q (.int (mixed c k)) H
def cellAt (ns : List Int) (k : Int) : Int := if ns.length = 0 then 0 else ns.getD (k % (ns.length : Int)).toNat 0
def num (ns : List Int) (k : Int) : Int := mixed (cellAt ns k) k
theorem cell_ix {ns : List Int} {k : Int} (h : 0 < ns.length) (hk : 0 ≤ k) : (ns.map V.int)[(k % (ns.length : Int)).toNat]? = some (.int (cellAt ns k)) := by
  have h1 : (k % (ns.length : Int)).toNat < ns.length := by
    have a := Int.emod_lt_of_pos k (show (0 : Int) < ns.length by omega)
    have b := Int.emod_nonneg k (show (ns.length : Int) ≠ 0 by omega)
    omega
  unfold cellAt
  rw [if_neg (by omega), List.getElem?_map, List.getD_eq_getElem?_getD, List.getElem?_eq_getElem h1]
  rfl
def spNumber (K : PySem.W.Frag) : Sp := fun vs H Q _ => ∃ (a : Addr) (ns : List Int) (k : Int), vs = [.ref a, .int k] ∧ SqL K H a (ns.map V.int) ∧ (0 ≤ k ∧ k ≤ 100000) ∧ Q (.int (num ns k)) H
section
variable {P : Program} {w : World} {K : PySem.W.Frag} {mg : Str → Option Value} {base : Heap} {A : Adr}
theorem ok_l_mixed (T : Txt K mg A) : FnOk P w K mg base CX0 1 A.a_l_mixed A.d_l_mixed ["_law_cell", "_law_k"] spMixed := by
  refine T.F_l_mixed.ok sc_l_mixed (fun vs H Q E h => ?_) (fun cdv C outer s H vs Q E hr h => ?_)
  · obtain ⟨c, k, rfl, _⟩ := h
    rfl
  · obtain ⟨c, k, rfl, hk, q⟩ := h
    refine ⟨_, (pss_cons (ps_set (i := 2) sc_l_mixed.nd rfl (Or.inl rfl) (pe_op op_mod (pe_op op_mul (pe_op op_add (pe_op op_add (pe_op op_add (pe_op op_mod (pv 0) pe_int) (pe_op op_mul (pe_op op_mul pe_int (pv 1)) (pv 1))) (pe_op op_mul pe_int (pv 1))) pe_int) pe_int) pe_int))
  (pss_one (ps_ret (pe_op op_fdiv (pe_op op_mod (pe_op op_mul (pv 2) (pe_op op_add (pe_op op_mod (pv 2) pe_int) pe_int)) pe_int) pe_int)))), ?_⟩
    have e : mixN c k = (c % 1000000007 + 7919 * k * k + 31 * k + 17) * 48271 % 2147483647 := rfl
    simp [L2.start, CMul, CDiv, ← e]
    refine ⟨?_, ?_, q⟩ <;> omega
theorem ok_l_number (T : Txt K mg A) : FnOk P w K mg base CX0 2 A.a_l_number A.d_l_number ["_law_script", "_law_k"] (spNumber K) := by
  refine T.F_l_number.ok sc_l_number (fun vs H Q E h => ?_) (fun cdv C outer s H vs Q E hr h => ?_)
  · obtain ⟨a, ns, k, rfl, _⟩ := h
    rfl
  · obtain ⟨a, ns, k, rfl, hS, hk, q⟩ := h
    refine ⟨_, (pss_cons (ps_set (i := 2) sc_l_number.nd rfl (Or.inl rfl) pe_int)
  (pss_cons (ps_if (pt_cmpR op_gt (pe_callB call_len_seq (by rfl) T.len (by decide +kernel) (pa_cons (pv 0) pa_nil)) pe_int (nomark _))
    (pss_one (ps_set (i := 2) sc_l_number.nd rfl (Or.inl rfl) (pe_ix ix_list (pv 0) (pe_op op_mod (pv 1) (pe_callB call_len_seq (by rfl) T.len (by decide +kernel) (pa_cons (pv 0) pa_nil))) (fun _ _ => rfl))))
    pss_nil)
  (pss_one (ps_ret (pe_call (ok_l_mixed T) (hr.mono (by decide)) rfl T.g_l_mixed T.k_l_mixed T.b_l_mixed .nil pass0 (pa_cons (pv 2) (pa_cons (pv 1) pa_nil))))))), ?_⟩
    simp [L2.start]
    refine ⟨_, .inl hS, ?_⟩
    simp [spMixed, hk, and_assoc]
    by_cases hn : ns = []
    · subst hn
      exact .inl ⟨rfl, q⟩
    · have h0 : 0 < ns.length := by cases ns with | nil => exact absurd rfl hn | cons _ _ => simp
      refine .inr ⟨h0, _, .inl hS, by simpa using h0, a, _, _, _, rfl, rfl, hS, at_toNat ?_ ?_, _, rfl, q⟩
      · exact Int.emod_nonneg k (by rw [List.length_map]; omega)
      · rw [List.length_map]
        exact cell_ix h0 hk.1
end
end Jk

namespace Jk
open PySem L2 Evl
/-! ## things -/
inductive Thing (H : Hp) : V → Prop where
  | non : Thing H .non
  | bl (b : Bool) : Thing H (.bl b)
  | int (i : Int) : Thing H (.int i)
  | str (s : Str) : Thing H (.str s)
  | lst {a : Addr} {xs : List V} (h : H a = some (.lst xs)) : Thing H (.ref a)
  | tup {a : Addr} {xs : List V} (h : H a = some (.tup xs)) : Thing H (.ref a)
  | dK {a : Addr} {xs : List (Key × V)} (h : H a = some (.dK xs)) : Thing H (.ref a)
theorem Thing.up {H H' : Hp} {x : V} (t : Thing H x) (e : Ex H H') : Thing H' x := by
  cases t with
  | non => exact .non
  | bl b => exact .bl b
  | int i => exact .int i
  | str s => exact .str s
  | lst h => exact .lst (e _ _ h)
  | tup h => exact .tup (e _ _ h)
  | dK h => exact .dK (e _ _ h)
def inR (x : V) (lo hi : Int) : Bool := match x with
  | .int i => decide (lo ≤ i ∧ i ≤ hi)
  | _ => false
def spWhole : Sp := fun vs H Q _ => ∃ (x : V) (lo hi : Int), vs = [x, .int lo, .int hi] ∧ Thing H x ∧ Q (.bl (inR x lo hi)) H
section
variable {P : Program} {w : World} {K : PySem.W.Frag} {mg : Str → Option Value} {base : Heap} {A : Adr}
theorem ok_whole_within (T : Txt K mg A) : FnOk P w K mg base CX0 1 A.a_whole_within A.d_whole_within ["number", "least", "most"] spWhole := by
  refine T.F_whole_within.ok sc_whole_within (fun vs H Q E h => ?_) (fun cdv C outer s H vs Q E hr h => ?_)
  · obtain ⟨x, lo, hi, rfl, _⟩ := h
    rfl
  · obtain ⟨x, lo, hi, rfl, th, q⟩ := h
    refine ⟨_, (pss_cons (ps_if (PW.pt (pw_or (pt_not (pt_val (pe_callB call_isJ (by rfl) T.isinstance (by decide +kernel) (pa_cons (pv 0) (pa_cons (pe_bltn (v := .ty "int") (u := .type "int") (by rfl) T.int (by decide +kernel) rfl) pa_nil))))) (pw_or1 (pt_val (pe_callB call_isJ (by rfl) T.isinstance (by decide +kernel) (pa_cons (pv 0) (pa_cons (pe_bltn (v := .ty "bool") (u := .type "bool") (by rfl) T.bool (by decide +kernel) rfl) pa_nil)))))))
    (pss_one (ps_ret pe_bl))
    pss_nil)
  (pss_one (ps_ret (pe_chain op_le op_le (pv 1) (pv 0) (pv 2))))), ?_⟩
    cases th with
    | non => simpa [L2.start, inR] using q
    | bl b => simpa [L2.start, inR] using q
    | int i =>
      simp [L2.start]
      by_cases h1 : lo ≤ i
      · refine .inr ⟨h1, ?_⟩
        simpa [inR, h1] using q
      · refine .inl ⟨by omega, ?_⟩
        simpa [inR, h1] using q
    | str s => simpa [L2.start, inR] using q
    | lst h => simpa [L2.start, inR, tyN_lst h] using q
    | tup h => simpa [L2.start, inR, tyN_tup h] using q
    | dK h => simpa [L2.start, inR, tyN_dK h] using q
end
end Jk

namespace Jk
open PySem L2 Evl
/-! ## webs in the heap -/
def wf (l : Addr) : List (Str × V) := putF "_near" (.ref l) []
theorem wf_near (l : Addr) : (wf l).lookup ("_near" : Str) = some (.ref l) := by unfold wf; rw [lookup_putF, if_pos rfl]
theorem wf_no (l : Addr) {m : Str} (h : ¬ m = "_near") : (wf l).lookup m = none := by unfold wf; rw [lookup_putF, if_neg h]; rfl
@[simp] theorem wf_has (l : Addr) : NoFld (wf l) "has" := wf_no l (by decide +kernel)
@[simp] theorem wf_put (l : Addr) : NoFld (wf l) "put" := wf_no l (by decide +kernel)
@[simp] theorem wf_take (l : Addr) : NoFld (wf l) "take" := wf_no l (by decide +kernel)
@[simp] theorem wf_grow (l : Addr) : NoFld (wf l) "grow" := wf_no l (by decide +kernel)
@[simp] theorem wf_many (l : Addr) : NoFld (wf l) "many" := wf_no l (by decide +kernel)
@[simp] theorem wf_ties (l : Addr) : NoFld (wf l) "ties" := wf_no l (by decide +kernel)
@[simp] theorem wf_beside (l : Addr) : NoFld (wf l) "beside" := wf_no l (by decide +kernel)
@[simp] theorem wf_need (l : Addr) : NoFld (wf l) "_need_point" := wf_no l (by decide +kernel)
def rowD (r : List Int) : List (Key × V) := r.map fun j => (Sum.inl j, V.bl true)
structure WebAt (C : Addr) (H : Hp) (p l : Addr) (ds : List Addr) (rows : List (List Int)) : Prop where
  ob : ∃ dx, H p = some (.ins C dx (wf l))
  ls : H l = some (.lst (ds.map V.ref))
  nd : ds.Nodup
  len : ds.length = rows.length
  row : ∀ (i : Nat) (d : Addr) (r : List Int), ds[i]? = some d → rows[i]? = some r → H d = some (.dK (rowD r))
theorem WebAt.uniq {C : Addr} {H : Hp} {p l l' : Addr} {ds ds' : List Addr} {rows rows' : List (List Int)} (W : WebAt C H p l ds rows) (W' : WebAt C H p l' ds' rows') : l' = l ∧ ds' = ds ∧ rows' = rows := by
  obtain ⟨⟨dx, a1⟩, a2, _, a4, a5⟩ := W
  obtain ⟨⟨dx', b1⟩, b2, _, b4, b5⟩ := W'
  have e1 : l' = l := by
    rw [a1] at b1
    have z : wf l = wf l' := by cases b1; rfl
    have y := congrArg (fun fs => List.lookup ("_near" : Str) fs) z
    simp only [wf_near] at y
    cases y; rfl
  subst e1
  have e2 : ds' = ds := by
    rw [a2] at b2
    have z : ds.map V.ref = ds'.map V.ref := HO.lst.inj (Option.some.inj b2)
    exact ((List.map_inj_right (fun x y h => by cases h; rfl)).mp z).symm
  subst e2
  refine ⟨rfl, rfl, ?_⟩
  refine List.ext_getElem? fun i => ?_
  by_cases h : i < rows.length
  · have h' : i < rows'.length := by omega
    have hd : i < ds'.length := by omega
    have x := a5 i _ _ (List.getElem?_eq_getElem hd) (List.getElem?_eq_getElem h)
    have y := b5 i _ _ (List.getElem?_eq_getElem hd) (List.getElem?_eq_getElem h')
    rw [x] at y
    have z : rowD rows[i] = rowD rows'[i] := HO.dK.inj (Option.some.inj y)
    unfold rowD at z
    have z' := (List.map_inj_right (fun a b h => by cases h; rfl)).mp z
    rw [List.getElem?_eq_getElem h, List.getElem?_eq_getElem h', z']
  · rw [List.getElem?_eq_none (by omega), List.getElem?_eq_none (by omega)]
theorem web_ex {C : Addr} {H : Hp} {p l : Addr} {ds : List Addr} {rows : List (List Int)} {R : Addr → List Addr → List (List Int) → Prop} (W : WebAt C H p l ds rows) : (∃ l' ds' rows', WebAt C H p l' ds' rows' ∧ R l' ds' rows') ↔ R l ds rows :=
  ⟨fun ⟨_, _, _, W', r⟩ => by obtain ⟨rfl, rfl, rfl⟩ := W.uniq W'; exact r, fun r => ⟨l, ds, rows, W, r⟩⟩
def spNeed (A : Adr) : Sp := fun vs H Q E => ∃ (p l : Addr) (ds : List Addr) (rows : List (List Int)) (x : V), vs = [.ref p, x] ∧ WebAt A.c_Web H p l ds rows ∧ Thing H x ∧
  (inR x 0 ((rows.length : Int) - 1) = true → Q .non H) ∧ (inR x 0 ((rows.length : Int) - 1) = false → E (.ref A.c_BadPoint) none H)
section
variable {P : Program} {w : World} {K : PySem.W.Frag} {mg : Str → Option Value} {base : Heap} {A : Adr}
theorem ok_Web_need_point (T : Txt K mg A) : FnOk P w K mg base (L2.CX P w) 2 A.a_Web_need_point A.d_Web_need_point ["self", "point"] (spNeed A) := by
  refine T.F_Web_need_point.okX sc_Web_need_point (fun vs H Q E h => ?_) (fun cdv C outer s H vs Q E hr h => ?_)
  · obtain ⟨p, l, ds, rows, x, rfl, _⟩ := h
    rfl
  · obtain ⟨p, l, ds, rows, x, rfl, W, th, k1, k2⟩ := h
    obtain ⟨⟨dx, h1⟩, h2, h3, h4, h5⟩ := W
    refine ⟨_, (pss_one (ps_if (pt_not (pt_val (pe_call (ok_whole_within T) (hr.mono (by decide)) rfl T.g_whole_within T.k_whole_within T.b_whole_within .nil pass0 (pa_cons (pv 1) (pa_cons pe_int (pa_cons (pe_op op_sub (pe_callB call_lenJ (by rfl) T.len (by decide +kernel) (pa_cons (pe_fld (pv 0) rfl) pa_nil)) pe_int) pa_nil))))))
    (pss_one (ps_raise rfl (takes_of rfl rfl rfl rfl) (pmk_own PySem.F.excBase_ValueError T.xBadPoint T.gBadPoint T.kBadPoint (raises_own T.bBadPoint T.tBadPoint) rfl)))
    pss_nil)), ?_⟩
    simp [L2.start, and_assoc, h1, h2, T.cl_Web, T.n_Web__near, wf_near, spWhole, h4, th]
    cases e : inR x 0 ((rows.length : Int) - 1) with
    | true => exact .inr ⟨rfl, k1 e⟩
    | false => exact .inl ⟨rfl, k2 e⟩

/-! has -/
def okPt (rows : List (List Int)) (x : V) : Bool := inR x 0 ((rows.length : Int) - 1)
def tied (rows : List (List Int)) (i j : Int) : Bool := decide (j ∈ rows.getD i.toNat [])
theorem okPt_int {rows : List (List Int)} {x : V} (h : okPt rows x = true) : ∃ i, x = .int i ∧ 0 ≤ i ∧ i.toNat < rows.length := by
  unfold okPt inR at h
  cases x with
  | int i =>
    have h' := of_decide_eq_true h
    exact ⟨i, rfl, h'.1, by omega⟩
  | _ => cases h
theorem okPt_of {rows : List (List Int)} {i : Int} (h0 : 0 ≤ i) (h1 : i.toNat < rows.length) : okPt rows (.int i) = true := by
  unfold okPt inR
  simp
  omega
theorem rowD_val (r : List Int) (j : Int) : valV (rowD r) (Sum.inl j) = if j ∈ r then some (.bl true) else none := by
  unfold rowD
  induction r with
  | nil => rfl
  | cons a r ih =>
    by_cases e : a = j
    · subst e
      simp [valV_pos]
    · have e' : ¬ (Sum.inl a : Key) = Sum.inl j := fun z => e (Sum.inl.inj z)
      rw [List.map_cons, valV_neg (by exact e'), ih]
      have : j ∈ a :: r ↔ j ∈ r := by simp [Ne.symm e]
      simp [this]
theorem WebAt.at {C : Addr} {H : Hp} {p l : Addr} {ds : List Addr} {rows : List (List Int)} (W : WebAt C H p l ds rows) {i : Nat} (h : i < rows.length) : ∃ d, ds[i]? = some d ∧ H d = some (.dK (rowD (rows.getD i []))) ∧ (ds.map V.ref)[i]? = some (.ref d) := by
  have h' : i < ds.length := by rw [W.len]; exact h
  refine ⟨ds[i], List.getElem?_eq_getElem h', W.row i _ _ (List.getElem?_eq_getElem h') ?_, by rw [List.getElem?_map, List.getElem?_eq_getElem h']; rfl⟩
  rw [List.getD_eq_getElem?_getD, List.getElem?_eq_getElem h]
  rfl
/-- two points of the web, unlike -/
def okTwo (rows : List (List Int)) (x y : V) : Bool := okPt rows x && (okPt rows y && !decide (x = y))
def iOf : V → Int
  | .int i => i
  | _ => 0
def spHas (A : Adr) : Sp := fun vs H Q E => ∃ (p l : Addr) (ds : List Addr) (rows : List (List Int)) (x y : V), vs = [.ref p, x, y] ∧ WebAt A.c_Web H p l ds rows ∧ Thing H x ∧ Thing H y ∧
  (okTwo rows x y = true → Q (.bl (tied rows (iOf x) (iOf y))) H) ∧ (okTwo rows x y = false → E (.ref A.c_BadPoint) none H)
theorem ok_Web_has (T : Txt K mg A) : FnOk P w K mg base (L2.CX P w) 3 A.a_Web_has A.d_Web_has ["self", "one", "other"] (spHas A) := by
  refine T.F_Web_has.okX sc_Web_has (fun vs H Q E h => ?_) (fun cdv C outer s H vs Q E hr h => ?_)
  · obtain ⟨p, l, ds, rows, x, y, rfl, _⟩ := h
    rfl
  · obtain ⟨p, l, ds, rows, x, y, rfl, W, tx, ty, k1, k2⟩ := h
    have hu := hu_of hr
    refine ⟨_, (pss_cons (ps_expr (pe_meth (pv 0) T.cl_Web T.m_Web_need_point (ok_Web_need_point T) (hr.mono (by decide)) T.b_Web_need_point .nil (passes_call (E := E) (takes_of rfl rfl rfl rfl) fun _ _ _ _ z => z) (pa_cons (pv 1) pa_nil)))
  (pss_cons (ps_expr (pe_meth (pv 0) T.cl_Web T.m_Web_need_point (ok_Web_need_point T) (hr.mono (by decide)) T.b_Web_need_point .nil (passes_call (E := E) (takes_of rfl rfl rfl rfl) fun _ _ _ _ z => z) (pa_cons (pv 2) pa_nil)))
  (pss_cons (ps_if (pt_cmpR op_eq (pv 1) (pv 2) (nomark _))
    (pss_one (ps_raise rfl (takes_of rfl rfl rfl rfl) (pmk_own PySem.F.excBase_ValueError T.xBadPoint T.gBadPoint T.kBadPoint (raises_own T.bBadPoint T.tBadPoint) rfl)))
    pss_nil)
  (pss_one (ps_ret (pe_cmp (pc_dinJ hu (pv 2) (pe_ix ix_listJ (pe_fld (pv 0) rfl) (pv 1) (fun _ _ => rfl))) rfl)))))), ?_⟩
    obtain ⟨⟨dx, h1⟩, h2, h3, h4, h5⟩ := id W
    have key : (okPt rows x = true → okPt rows y = true → ∃ i j, x = .int i ∧ y = .int j ∧ 0 ≤ i ∧ i.toNat < rows.length) := fun e1 e2 => by
      obtain ⟨i, rfl, a1, a2⟩ := okPt_int e1
      obtain ⟨j, rfl, _, _⟩ := okPt_int e2
      exact ⟨i, j, rfl, rfl, a1, a2⟩
    simp [L2.start, and_assoc, h1, h2, T.cl_Web, T.n_Web__near, wf_near, spNeed, web_ex W, tx, ty]
    change (okPt rows x = true → (okPt rows y = true → _) ∧ (okPt rows y = false → _)) ∧ (okPt rows x = false → _)
    refine ⟨fun e1 => ⟨fun e2 => ?_, fun e2 => k2 (by simp [okTwo, e1, e2])⟩, fun e1 => k2 (by simp [okTwo, e1])⟩
    obtain ⟨i, j, rfl, rfl, a1, a2⟩ := key e1 e2
    obtain ⟨d, b1, b2, b3⟩ := W.at a2
    simp [okTwo, e1, e2, tied, iOf] at k1 k2
    by_cases hij : i = j
    · subst hij
      simpa using k2 rfl
    · simp at b2
      simp [and_assoc, hij, a1, b1, b2, h1, h2, T.cl_Web, T.n_Web__near, wf_near, rowD_val]
      by_cases hm : j ∈ rows[i.toNat]?.getD [] <;> simpa [hm] using k1 hij
end
end Jk

namespace Jk
open PySem L2 Evl
/-- all but what stands at M is as it was, and nothing is forgotten -/
structure But (M : List Addr) (H H' : Hp) : Prop where
  kp : ∀ b o, H b = some o → b ∉ M → H' b = some o
  dm : ∀ b, H' b = none → H b = none
theorem But.of_ex {M : List Addr} {H H' : Hp} (e : Ex H H') : But M H H' := ⟨fun b o h _ => e b o h, fun _ h => fresh_back e h⟩
theorem But.trans {M : List Addr} {H H1 H2 : Hp} (a : But M H H1) (b : But M H1 H2) : But M H H2 := ⟨fun c o h n => b.kp c o (a.kp c o h n) n, fun c h => a.dm c (b.dm c h)⟩
theorem But.mono {M N : List Addr} {H H' : Hp} (a : But M H H') (s : ∀ x ∈ M, x ∈ N) : But N H H' := ⟨fun c o h n => a.kp c o h fun z => n (s c z), a.dm⟩
theorem But.upd {M : List Addr} {H : Hp} {d : Addr} {o : HO} (h : d ∈ M) : But M H (upd H d o) := ⟨fun b u e n => by
  rw [upd_ne (show b ≠ d from fun z => n (by rw [z]; exact h))]
  exact e, fun b z => by
  by_cases q : b = d
  · subst q; rw [upd_same] at z; cases z
  · rw [upd_ne q] at z; exact z⟩
theorem But.updT {M : List Addr} {H H' : Hp} {d : Addr} {o : HO} (a : But M H H') (h : d ∈ M) : But M H (L2.upd H' d o) := a.trans (But.upd h)
def putR (rows : List (List Int)) (i j : Nat) : List (List Int) := (rows.set i (rows.getD i [] ++ [(j : Int)])).set j (rows.getD j [] ++ [(i : Int)])
def takeR (rows : List (List Int)) (i j : Nat) : List (List Int) := (rows.set i ((rows.getD i []).filter fun z => decide (z ≠ (j : Int)))).set j ((rows.getD j []).filter fun z => decide (z ≠ (i : Int)))
theorem rowD_put {r : List Int} {j : Int} (h : ¬ j ∈ r) : putK (rowD r) (Sum.inl j) (.bl true) = rowD (r ++ [j]) := by
  rw [putK_new _ (by rw [rowD_val, if_neg h])]
  unfold rowD
  rw [List.map_append]
  rfl
theorem rowD_drop (r : List Int) (j : Int) : dropK (rowD r) (Sum.inl j) = rowD (r.filter fun z => decide (z ≠ j)) := by
  unfold rowD dropK
  rw [List.filter_map]
  congr 1
  refine List.filter_congr fun z _ => ?_
  show decide ((Sum.inl z : Key) ≠ Sum.inl j) = decide (z ≠ j)
  by_cases e : z = j <;> simp [e]
theorem WebAt.set {C : Addr} {H : Hp} {p l : Addr} {ds : List Addr} {rows : List (List Int)} (W : WebAt C H p l ds rows) {i : Nat} {d : Addr} {r : List Int} (hd : ds[i]? = some d) (hi : i < rows.length) : WebAt C (upd H d (.dK (rowD r))) p l ds (rows.set i r) := by
  obtain ⟨dx, h1⟩ := W.ob
  have hD : H d = some (.dK (rowD (rows.getD i []))) := by
    obtain ⟨d', e1, e2, _⟩ := W.at hi
    rw [hd] at e1; cases e1; exact e2
  refine ⟨⟨dx, ?_⟩, ?_, W.nd, by rw [List.length_set]; exact W.len, fun k d' r' e1 e2 => ?_⟩
  · rw [upd_ne (ne_of h1 hD (by intro z; cases z))]; exact h1
  · rw [upd_ne (ne_of W.ls hD (by intro z; cases z))]; exact W.ls
  · by_cases hk : k = i
    · subst hk
      rw [hd] at e1; cases e1
      rw [List.getElem?_set_self hi] at e2; cases e2
      exact upd_same
    · have hne : d' ≠ d := fun z => hk (nd_ix W.nd e1 (z ▸ hd))
      rw [upd_ne hne]
      rw [List.getElem?_set_ne (Ne.symm hk)] at e2
      exact W.row k d' r' e1 e2
theorem WebAt.up {C : Addr} {H H' : Hp} {p l : Addr} {ds : List Addr} {rows : List (List Int)} (W : WebAt C H p l ds rows) (e : Ex H H') : WebAt C H' p l ds rows :=
  ⟨let ⟨dx, h⟩ := W.ob; ⟨dx, e _ _ h⟩, e _ _ W.ls, W.nd, W.len, fun i d r a b => e _ _ (W.row i d r a b)⟩
theorem WebAt.but {C : Addr} {H H' : Hp} {p l : Addr} {ds : List Addr} {rows : List (List Int)} {M : List Addr} (W : WebAt C H p l ds rows) (e : But M H H') (n : ∀ x ∈ M, x ≠ p ∧ x ≠ l ∧ x ∉ ds) : WebAt C H' p l ds rows :=
  ⟨let ⟨dx, h⟩ := W.ob; ⟨dx, e.kp _ _ h fun z => (n _ z).1 rfl⟩, e.kp _ _ W.ls fun z => (n _ z).2.1 rfl, W.nd, W.len, fun i d r a b => e.kp _ _ (W.row i d r a b) fun z => (n _ z).2.2 (List.mem_of_getElem? a)⟩
/-- ties go both ways -/
def Sym (rows : List (List Int)) : Prop := ∀ i j : Nat, i < rows.length → j < rows.length → ((j : Int) ∈ rows.getD i [] ↔ (i : Int) ∈ rows.getD j [])
def spPut (A : Adr) : Sp := fun vs H Q E => ∃ (p l : Addr) (ds : List Addr) (rows : List (List Int)) (x y : V), vs = [.ref p, x, y] ∧ WebAt A.c_Web H p l ds rows ∧ Thing H x ∧ Thing H y ∧ Sym rows ∧ (∀ r ∈ rows, r.length ≤ 100) ∧
  (okTwo rows x y = false → E (.ref A.c_BadPoint) none H) ∧ (okTwo rows x y = true → tied rows (iOf x) (iOf y) = true → E (.ref A.c_Twice) none H) ∧
  (okTwo rows x y = true → tied rows (iOf x) (iOf y) = false → ∀ H', WebAt A.c_Web H' p l ds (putR rows (iOf x).toNat (iOf y).toNat) → But ds H H' → Q .non H')
def spTake (A : Adr) : Sp := fun vs H Q E => ∃ (p l : Addr) (ds : List Addr) (rows : List (List Int)) (x y : V), vs = [.ref p, x, y] ∧ WebAt A.c_Web H p l ds rows ∧ Thing H x ∧ Thing H y ∧ Sym rows ∧
  (okTwo rows x y = false → E (.ref A.c_BadPoint) none H) ∧ (okTwo rows x y = true → tied rows (iOf x) (iOf y) = false → E (.ref A.c_NoTie) none H) ∧
  (okTwo rows x y = true → tied rows (iOf x) (iOf y) = true → ∀ H', WebAt A.c_Web H' p l ds (takeR rows (iOf x).toNat (iOf y).toNat) → But ds H H' → Q .non H')
theorem okTwo_ints {rows : List (List Int)} {x y : V} (h : okTwo rows x y = true) : ∃ i j : Nat, x = .int i ∧ y = .int j ∧ i < rows.length ∧ j < rows.length ∧ i ≠ j := by
  unfold okTwo at h
  simp only [Bool.and_eq_true, Bool.not_eq_true', decide_eq_false_iff_not] at h
  obtain ⟨h1, h2, h3⟩ := h
  obtain ⟨i, rfl, a1, a2⟩ := okPt_int h1
  obtain ⟨j, rfl, b1, b2⟩ := okPt_int h2
  refine ⟨i.toNat, j.toNat, by rw [Int.toNat_of_nonneg a1], by rw [Int.toNat_of_nonneg b1], a2, b2, fun z => h3 ?_⟩
  have : i = j := by omega
  rw [this]
section
variable {P : Program} {w : World} {K : PySem.W.Frag} {mg : Str → Option Value} {base : Heap} {A : Adr}
theorem ok_Web_put (T : Txt K mg A) : FnOk P w K mg base (L2.CX P w) 4 A.a_Web_put A.d_Web_put ["self", "one", "other"] (spPut A) := by
  refine T.F_Web_put.okX sc_Web_put (fun vs H Q E h => ?_) (fun cdv C outer s H vs Q E hr h => ?_)
  · obtain ⟨p, l, ds, rows, x, y, rfl, _⟩ := h
    rfl
  · obtain ⟨p, l, ds, rows, x, y, rfl, W, tx, ty, sy, small, k1, k2, k3⟩ := h
    have hu := hu_of hr
    refine ⟨_, (pss_cons (ps_if (pt_val (pe_meth (pv 0) T.cl_Web T.m_Web_has (ok_Web_has T) (hr.mono (by decide)) T.b_Web_has .nil (passes_call (E := E) (takes_of rfl rfl rfl rfl) fun _ _ _ _ z => z) (pa_cons (pv 1) (pa_cons (pv 2) pa_nil))))
    (pss_one (ps_raise rfl (takes_of rfl rfl rfl rfl) (pmk_own PySem.F.excBase_ValueError T.xTwice T.gTwice T.kTwice (raises_own T.bTwice T.tTwice) rfl)))
    pss_nil)
  (pss_cons (ps_dputJ hu (pe_ix ix_listJ (pe_fld (pv 0) rfl) (pv 1) (fun _ _ => rfl)) (pv 2) pe_bl rfl)
  (pss_one (ps_dputJ hu (pe_ix ix_listJ (pe_fld (pv 0) rfl) (pv 2) (fun _ _ => rfl)) (pv 1) pe_bl rfl)))), ?_⟩
    obtain ⟨⟨dx, h1⟩, h2, h3, h4, h5⟩ := id W
    simp [L2.start, and_assoc, h1, h2, T.cl_Web, T.n_Web__near, wf_near, spHas, web_ex W, tx, ty]
    refine ⟨fun ok => ?_, k1⟩
    cases ht : tied rows (iOf x) (iOf y) with
    | true => simpa [ht] using k2 ok ht
    | false =>
      obtain ⟨i, j, rfl, rfl, hi, hj, hij⟩ := okTwo_ints ok
      obtain ⟨d, b1, b2, b3⟩ := W.at hi
      obtain ⟨d', c1, c2, c3⟩ := W.at hj
      have nij : ¬ (j : Int) ∈ rows.getD i [] := by simpa [tied, iOf] using ht
      have nji : ¬ (i : Int) ∈ rows.getD j [] := fun z => nij ((sy i j hi hj).mpr z)
      have W1 := W.set (r := rows.getD i [] ++ [(j : Int)]) b1 hi
      have W2 := W1.set (r := rows.getD j [] ++ [(i : Int)]) c1 (by rw [List.length_set]; exact hj)
      have ndd : d' ≠ d := fun z => hij (nd_ix W.nd b1 (z ▸ c1))
      have l1 : (rowD (rows.getD i [])).length ≤ 100000 := by
        unfold rowD; rw [List.length_map, List.getD_eq_getElem?_getD, List.getElem?_eq_getElem hi]
        exact Nat.le_trans (small _ (List.getElem_mem hi)) (by decide)
      have l2 : (rowD (rows.getD j [])).length ≤ 100000 := by
        unfold rowD; rw [List.length_map, List.getD_eq_getElem?_getD, List.getElem?_eq_getElem hj]
        exact Nat.le_trans (small _ (List.getElem_mem hj)) (by decide)
      have g1 : (upd H d (.dK (rowD (rows.getD i [] ++ [(j : Int)])))) p = some (.ins A.c_Web dx (wf l)) := by rw [upd_ne (ne_of h1 b2 (by intro z; cases z))]; exact h1
      have g2 := W1.ls
      have g3 : (upd H d (.dK (rowD (rows.getD i [] ++ [(j : Int)])))) d' = some (.dK (rowD (rows.getD j []))) := by rw [upd_ne ndd]; exact c2
      have fin := k3 ok ht _ W2 ((But.upd (List.mem_of_getElem? b1)).updT (List.mem_of_getElem? c1))
      simp only [List.getD_eq_getElem?_getD] at *
      simp [and_assoc, ht, h1, h2, b1, b2, T.cl_Web, T.n_Web__near, wf_near, rowD_put nij, l1, g1, g2, c1, g3, rowD_put nji, l2]
      exact fin
end
end Jk

namespace Jk
open PySem L2 Evl
def spGrow (A : Adr) : Sp := fun vs H Q E => ∃ (p l : Addr) (ds : List Addr) (rows : List (List Int)), vs = [.ref p] ∧ WebAt A.c_Web H p l ds rows ∧ rows.length ≤ 1000 ∧
  (30 ≤ rows.length → E (.ref A.c_TooMany) none H) ∧ (rows.length < 30 → ∀ d H', H d = none → WebAt A.c_Web H' p l (ds ++ [d]) (rows ++ [[]]) → But [l] H H' → Q (.int (rows.length : Int)) H')
def spMany (A : Adr) : Sp := fun vs H Q _ => ∃ (p l : Addr) (ds : List Addr) (rows : List (List Int)), vs = [.ref p] ∧ WebAt A.c_Web H p l ds rows ∧ Q (.int (rows.length : Int)) H
def spBeside (A : Adr) : Sp := fun vs H Q E => ∃ (p l : Addr) (ds : List Addr) (rows : List (List Int)) (x : V), vs = [.ref p, x] ∧ WebAt A.c_Web H p l ds rows ∧ Thing H x ∧ (∀ r ∈ rows, r.length < 64) ∧
  (okPt rows x = false → E (.ref A.c_BadPoint) none H) ∧
  (okPt rows x = true → ∀ (ys : List Int) q H', ys.Perm (rows.getD (iOf x).toNat []) → ys.Pairwise (· ≤ ·) → H q = none → Ex H H' → H' q = some (.lst (ys.map V.int)) → Q (.ref q) H')
section
variable {P : Program} {w : World} {K : PySem.W.Frag} {mg : Str → Option Value} {base : Heap} {A : Adr}
theorem ok_Web_take (T : Txt K mg A) : FnOk P w K mg base (L2.CX P w) 4 A.a_Web_take A.d_Web_take ["self", "one", "other"] (spTake A) := by
  refine T.F_Web_take.okX sc_Web_take (fun vs H Q E h => ?_) (fun cdv C outer s H vs Q E hr h => ?_)
  · obtain ⟨p, l, ds, rows, x, y, rfl, _⟩ := h
    rfl
  · obtain ⟨p, l, ds, rows, x, y, rfl, W, tx, ty, sy, k1, k2, k3⟩ := h
    have hu := hu_of hr
    refine ⟨_, (pss_cons (ps_if (pt_not (pt_val (pe_meth (pv 0) T.cl_Web T.m_Web_has (ok_Web_has T) (hr.mono (by decide)) T.b_Web_has .nil (passes_call (E := E) (takes_of rfl rfl rfl rfl) fun _ _ _ _ z => z) (pa_cons (pv 1) (pa_cons (pv 2) pa_nil)))))
    (pss_one (ps_raise rfl (takes_of rfl rfl rfl rfl) (pmk_own PySem.F.excBase_ValueError T.xNoTie T.gNoTie T.kNoTie (raises_own T.bNoTie T.tNoTie) rfl)))
    pss_nil)
  (pss_cons (ps_ddel (pe_ix ix_listJ (pe_fld (pv 0) rfl) (pv 1) (fun _ _ => rfl)) (pv 2))
  (pss_one (ps_ddel (pe_ix ix_listJ (pe_fld (pv 0) rfl) (pv 2) (fun _ _ => rfl)) (pv 1))))), ?_⟩
    obtain ⟨⟨dx, h1⟩, h2, h3, h4, h5⟩ := id W
    simp [L2.start, and_assoc, h1, h2, T.cl_Web, T.n_Web__near, wf_near, spHas, web_ex W, tx, ty]
    refine ⟨fun ok => ?_, k1⟩
    cases ht : tied rows (iOf x) (iOf y) with
    | false => simpa [ht] using k2 ok ht
    | true =>
      obtain ⟨i, j, rfl, rfl, hi, hj, hij⟩ := okTwo_ints ok
      obtain ⟨d, b1, b2, b3⟩ := W.at hi
      obtain ⟨d', c1, c2, c3⟩ := W.at hj
      have mij : (j : Int) ∈ rows.getD i [] := by simpa [tied, iOf] using ht
      have mji : (i : Int) ∈ rows.getD j [] := (sy i j hi hj).mp mij
      have W1 := W.set (r := (rows.getD i []).filter fun z => decide (z ≠ (j : Int))) b1 hi
      have W2 := W1.set (r := (rows.getD j []).filter fun z => decide (z ≠ (i : Int))) c1 (by rw [List.length_set]; exact hj)
      have ndd : d' ≠ d := fun z => hij (nd_ix W.nd b1 (z ▸ c1))
      have v1 : valV (rowD (rows.getD i [])) (Sum.inl (j : Int)) = some (.bl true) := by rw [rowD_val, if_pos mij]
      have v2 : valV (rowD (rows.getD j [])) (Sum.inl (i : Int)) = some (.bl true) := by rw [rowD_val, if_pos mji]
      have g1 : (upd H d (.dK (rowD ((rows.getD i []).filter fun z => decide (z ≠ (j : Int)))))) p = some (.ins A.c_Web dx (wf l)) := by rw [upd_ne (ne_of h1 b2 (by intro z; cases z))]; exact h1
      have g2 := W1.ls
      have g3 : (upd H d (.dK (rowD ((rows.getD i []).filter fun z => decide (z ≠ (j : Int)))))) d' = some (.dK (rowD (rows.getD j []))) := by rw [upd_ne ndd]; exact c2
      have fin := k3 ok ht _ W2 ((But.upd (List.mem_of_getElem? b1)).updT (List.mem_of_getElem? c1))
      simp only [List.getD_eq_getElem?_getD] at *
      have q1 := rowD_drop (rows[i]?.getD []) (j : Int)
      have q2 := rowD_drop (rows[j]?.getD []) (i : Int)
      simp [and_assoc, ht, h1, h2, b1, b2, v1, T.cl_Web, T.n_Web__near, wf_near, q1]
      simp at g1 g2 g3 fin q2
      simp [and_assoc, g1, g2, c1, g3, v2, T.cl_Web, T.n_Web__near, wf_near, q2]
      exact fin
theorem ok_Web_many (T : Txt K mg A) : FnOk P w K mg base CX0 1 A.a_Web_many A.d_Web_many ["self"] (spMany A) := by
  refine T.F_Web_many.ok sc_Web_many (fun vs H Q E h => ?_) (fun cdv C outer s H vs Q E hr h => ?_)
  · obtain ⟨p, l, ds, rows, rfl, _⟩ := h
    rfl
  · obtain ⟨p, l, ds, rows, rfl, W, k⟩ := h
    obtain ⟨⟨dx, h1⟩, h2, h3, h4, h5⟩ := id W
    refine ⟨_, (pss_one (ps_ret (pe_callB call_lenJ (by rfl) T.len (by decide +kernel) (pa_cons (pe_fld (pv 0) rfl) pa_nil)))), ?_⟩
    simpa [L2.start, and_assoc, h1, h2, T.cl_Web, T.n_Web__near, wf_near, h4] using k
theorem ok_Web_grow (T : Txt K mg A) : FnOk P w K mg base (L2.CX P w) 1 A.a_Web_grow A.d_Web_grow ["self"] (spGrow A) := by
  refine T.F_Web_grow.okX sc_Web_grow (fun vs H Q E h => ?_) (fun cdv C outer s H vs Q E hr h => ?_)
  · obtain ⟨p, l, ds, rows, rfl, _⟩ := h
    rfl
  · obtain ⟨p, l, ds, rows, rfl, W, hl, k1, k2⟩ := h
    obtain ⟨⟨dx, h1⟩, h2, h3, h4, h5⟩ := id W
    refine ⟨_, (pss_cons (ps_set (i := 1) sc_Web_grow.nd rfl (Or.inl rfl) (pe_callB call_lenJ (by rfl) T.len (by decide +kernel) (pa_cons (pe_fld (pv 0) rfl) pa_nil)))
  (pss_cons (ps_if (pt_cmpR op_ge (pv 1) (pe_glob (v := .int 30) rfl T.cMOST_POINTS.choose_spec ⟨_, rfl⟩) (nomark _))
    (pss_one (ps_raise rfl (takes_of rfl rfl rfl rfl) (pmk_own PySem.F.excBase_ValueError T.xTooMany T.gTooMany T.kTooMany (raises_own T.bTooMany T.tTooMany) rfl)))
    pss_nil)
  (pss_cons (ps_expr (pe_bmL PySem.F.slot_list_append PySem.F.type_list_append mt_append (pe_fld (pv 0) rfl) (pa_cons pe_dictJ pa_nil)))
  (pss_one (ps_ret (pv 1)))))), ?_⟩
    simp [L2.start, and_assoc, h1, h2, T.cl_Web, T.n_Web__near, wf_near, h4]
    by_cases h30 : 30 ≤ rows.length
    · have : (30 : Int) ≤ (rows.length : Int) := by omega
      refine .inr ⟨this, k1 h30⟩
    · have : ¬ (30 : Int) ≤ (rows.length : Int) := by omega
      refine .inl ⟨by omega, fun d H2 hd e hd2 => ?_⟩
      have nl : d ≠ l := fun z => by rw [z, h2] at hd; cases hd
      refine ⟨ds.map V.ref, e _ _ h2, by rw [List.length_map, h4]; exact lt_line (by omega), ?_⟩
      have nin : d ∉ ds := fun z => by
        obtain ⟨i, hi, ei⟩ := List.mem_iff_getElem.mp z
        obtain ⟨d', c1, c2, _⟩ := W.at (i := i) (by rw [← h4]; exact hi)
        rw [List.getElem?_eq_getElem hi, ei] at c1
        cases c1
        rw [c2] at hd; cases hd
      refine k2 (by omega) d _ hd ⟨⟨dx, ?_⟩, ?_, ?_, by simp [h4], fun i d' r e1 e2 => ?_⟩ ((But.of_ex e).updT (by simp))
      · rw [upd_ne (ne_of h1 h2 (by intro z; cases z))]; exact e _ _ h1
      · rw [upd_same, List.map_append]; rfl
      · exact nd_snoc h3 nin
      · by_cases hi : i < ds.length
        · rw [List.getElem?_append_left hi] at e1
          rw [List.getElem?_append_left (by omega)] at e2
          have z := h5 i d' r e1 e2
          rw [upd_ne (ne_of z h2 (by intro z; cases z))]
          exact e _ _ z
        · rw [List.getElem?_append_right (by omega)] at e1 e2
          have i0 : i - ds.length = 0 := by
            have := (List.getElem?_eq_some_iff.mp e1).1
            simp at this; omega
          rw [i0] at e1
          rw [show i - rows.length = 0 by omega] at e2
          simp at e1 e2
          subst e1 e2
          rw [upd_ne nl]
          exact hd2
theorem ok_Web_beside (T : Txt K mg A) : FnOk P w K mg base (L2.CX P w) 3 A.a_Web_beside A.d_Web_beside ["self", "point"] (spBeside A) := by
  refine T.F_Web_beside.okX sc_Web_beside (fun vs H Q E h => ?_) (fun cdv C outer s H vs Q E hr h => ?_)
  · obtain ⟨p, l, ds, rows, x, rfl, _⟩ := h
    rfl
  · obtain ⟨p, l, ds, rows, x, rfl, W, tx, few, k1, k2⟩ := h
    obtain ⟨⟨dx, h1⟩, h2, h3, h4, h5⟩ := id W
    refine ⟨_, (pss_cons (ps_expr (pe_meth (pv 0) T.cl_Web T.m_Web_need_point (ok_Web_need_point T) (hr.mono (by decide)) T.b_Web_need_point .nil (passes_call (E := E) (takes_of rfl rfl rfl rfl) fun _ _ _ _ z => z) (pa_cons (pv 1) pa_nil)))
  (pss_one (ps_ret (pe_callB (call_sortedDI rfl) (by rfl) T.sorted (by decide +kernel) (pa_cons (pe_ix ix_listJ (pe_fld (pv 0) rfl) (pv 1) (fun _ _ => rfl)) pa_nil))))), ?_⟩
    simp [L2.start, and_assoc, h1, h2, T.cl_Web, T.n_Web__near, wf_near, spNeed, web_ex W, tx]
    refine ⟨fun ok => ?_, k1⟩
    obtain ⟨i, rfl, a1, a2⟩ := okPt_int ok
    obtain ⟨d, b1, b2, b3⟩ := W.at a2
    have few' : (rows.getD i.toNat []).length < 64 := by
      rw [List.getD_eq_getElem?_getD, List.getElem?_eq_getElem a2]
      exact few _ (List.getElem_mem a2)
    simp [and_assoc, a1, b1, h1, h2, T.cl_Web, T.n_Web__near, wf_near]
    refine ⟨_, .inl b2, rows.getD i.toNat [], ?_, few', fun ys q hp hs hq => ?_⟩
    · unfold rowD; rw [List.map_map]; rfl
    · exact k2 ok ys q _ hp hs hq (Ex.new hq) upd_same
end
end Jk

namespace Jk
open PySem L2 Evl
/-! ## comprehensions -/
def CompI (D : Addr) (H1 : Hp) (R : Nat → List V → Hp → Prop) (i : Nat) (H : Hp) : Prop := Ex H1 H ∧ ∃ acc, H D = some (.lst acc) ∧ acc.length ≤ 100000 ∧ R i acc H
theorem CompI.push {D : Addr} {H1 H4 : Hp} {R : Nat → List V → Hp → Prop} {i : Nat} {y : V} {acc : List V} (hD : H1 D = none) (e : Ex H1 H4) (ha : H4 D = some (.lst acc)) (hl : acc.length < 100000) (r : R (i + 1) (acc ++ [y]) (upd H4 D (.lst (acc ++ [y])))) :
    ∃ acc, H4 D = some (.lst acc) ∧ acc.length < sizeLine ∧ CompI D H1 R (i + 1) (upd H4 D (.lst (acc ++ [y]))) :=
  ⟨acc, ha, lt_line (by omega), Ex.mut e hD, _, upd_same, by rw [List.length_append]; exact hl, r⟩
def rowP (n i : Nat) : List (Int × Int) := (List.range (n - (i + 1))).map fun k => ((i : Int), ((i + 1 + k : Nat) : Int))
def pairsL (n : Nat) : List (Int × Int) := (List.range n).flatMap (rowP n)
theorem rows_len (n : Nat) : ∀ i : Nat, ((List.range i).flatMap (rowP n)).length ≤ i * n
  | 0 => by simp
  | i + 1 => by
    have ih := rows_len n i
    rw [List.range_succ, List.flatMap_append, List.length_append]
    have : ([i].flatMap (rowP n)).length ≤ n := by simp [rowP]
    have e : (i + 1) * n = i * n + n := Nat.succ_mul i n
    omega
theorem TupsAt.but {M : List Addr} {H H' : Hp} {ts : List Addr} {prs : List (Int × Int)} (h : TupsAt H ts prs) (e : But M H H') (n : ∀ t ∈ ts, t ∉ M) : TupsAt H' ts prs := ⟨h.1, fun k t p a b => e.kp _ _ (h.2 k t p a b) (n t (List.mem_of_getElem? a))⟩
def RetTups (prs : List (Int × Int)) (H : Hp) (Q : VK) : Prop := ∀ (ts : List Addr) q H', H q = none → Ex H H' → H' q = some (.lst (ts.map V.ref)) → TupsAt H' ts prs → Q (.ref q) H'
def spPairs : Sp := fun vs H Q _ => ∃ (n : Nat), vs = [.int (n : Int)] ∧ n ≤ 30 ∧ RetTups (pairsL n) H Q
section
variable {P : Program} {w : World} {K : PySem.W.Frag} {mg : Str → Option Value} {base : Heap} {A : Adr}
theorem ok_pairs (T : Txt K mg A) : FnOk P w K mg base CX0 1 A.a_pairs A.d_pairs ["many"] spPairs := by
  refine T.F_pairs.ok sc_pairs (fun vs H Q E h => ?_) (fun cdv C outer s H vs Q E hr h => ?_)
  · obtain ⟨n, rfl, _⟩ := h
    rfl
  · obtain ⟨n, rfl, hn, k⟩ := h
    refine ⟨_, (pss_one (ps_ret (pe_lc2 (own := [("one", 1), ("other", 2)]) (vs1 := [2]) rfl sc_pairs.nd (pi_range1 rfl T.range (pa_cons (pv 0) pa_nil)) (blkOk_by (own := [("one", 1), ("other", 2)]) (N := ["many", "one", "other"]) (sc := defScope s_pairs) (by decide +kernel)) (by decide) (fun _ _ _ _ _ => (pg_name (i := 1) sc_pairs.nd rfl (Or.inl rfl))) (fun _ _ _ _ _ => pts_nil) (fun _ _ _ _ _ => (pi_range2 rfl T.range (pa_cons (pe_op op_add (pv 1) pe_int) (pa_cons (pv 0) pa_nil)))) (fun _ _ _ _ _ => (pg_name (i := 2) sc_pairs.nd rfl (Or.inl rfl))) (fun _ _ _ _ _ => pts_nil) (fun _ _ _ _ _ => (pe_tupJ (pa_cons (pv 1) (pa_cons (pv 2) pa_nil))))))), ?_⟩
    let R : Nat → List V → Hp → Prop := fun i acc H' => ∃ ts : List Addr, acc = ts.map V.ref ∧ TupsAt H' ts ((List.range i).flatMap (rowP n))
    refine ⟨_, rfl, (n : Int), rfl, by omega, by omega, fun D hD => ⟨fun i m H' => m = n - i ∧ i ≤ n ∧ CompI D H R i H', ⟨n, by simp, Nat.zero_le _, Ex.new hD, [], upd_same, by simp, [], rfl, TupsAt.nil _⟩, ?_⟩⟩
    rintro i m H1 ⟨rfl, hi, c⟩
    by_cases hlt : i < n
    · refine .inr ⟨by show i < (n : Int).toNat; omega, CompI D H R (i + 1), fun H' p' => ⟨n - (i + 1), by omega, rfl, hlt, p'⟩, fun x H' y => ?_⟩
      obtain ⟨rfl, rfl⟩ := y
      let R2 : Nat → List V → Hp → Prop := fun j acc H' => ∃ ts : List Addr, acc = ts.map V.ref ∧ TupsAt H' ts ((List.range i).flatMap (rowP n) ++ (rowP n i).take j)
      refine ⟨rfl, ?_⟩
      refine ⟨_, rfl, _, _, rfl, rfl, _, rfl, _, _, rfl, ⟨by omega, by omega, by omega, by omega⟩, fun j m H' => m = (n - (i + 1)) - j ∧ j ≤ n - (i + 1) ∧ CompI D H R2 j H', ⟨n - (i + 1), by simp, Nat.zero_le _, ?_⟩, ?_⟩
      · obtain ⟨e, acc, h1, h2, ts, h3, h4⟩ := c
        exact ⟨e, acc, h1, h2, ts, h3, by simpa using h4⟩
      · rintro j m H2 ⟨rfl, hj, c2⟩
        by_cases hlt2 : j < n - (i + 1)
        · refine .inr ⟨by show j < ((n : Int) - (0 + (i : Int) + 1)).toNat; omega, CompI D H R2 (j + 1), fun H' p' => ⟨n - (i + 1) - (j + 1), by omega, rfl, hlt2, p'⟩, fun x H' y => ?_⟩
          obtain ⟨rfl, rfl⟩ := y
          obtain ⟨e, acc, h1, h2, ts, h3, h4⟩ := c2
          refine ⟨rfl, ?_⟩
          have e0 : (0 : Int) + (i : Int) + 1 + (j : Int) = ((i + 1 + j : Nat) : Int) := by omega
          have hat : (rowP n i).take (j + 1) = (rowP n i).take j ++ [((i : Int), ((i + 1 + j : Nat) : Int))] := by
            rw [List.take_add_one]
            congr 1
            have : (rowP n i)[j]? = some ((i : Int), ((i + 1 + j : Nat) : Int)) := by
              unfold rowP
              rw [List.getElem?_map, List.getElem?_range hlt2]
              rfl
            rw [this]; rfl
          have hlen : acc.length < 100000 := by
            have z := h4.1
            have z2 := rows_len n i
            rw [List.length_append] at z
            have z3 : ((rowP n i).take j).length ≤ n := by rw [List.length_take]; simp [rowP]; omega
            have z4 : i * n ≤ 30 * 30 := Nat.mul_le_mul (by omega) hn
            rw [h3, List.length_map]
            omega
          simp [L2.start, wipe, tYes]
          intro p H4 hp e4 hp4
          refine CompI.push (acc := acc) ?_ (e.trans e4) (e4 _ _ h1) hlen ?_
          · exact hD
          · refine ⟨ts ++ [p], by rw [h3, List.map_append]; rfl, ?_⟩
            rw [hat, ← List.append_assoc]
            have ne : p ≠ D := fun z => by rw [z, h1] at hp; cases hp
            refine TupsAt.snoc ((h4.up e4).upd (e4 _ _ h1)) ?_
            rw [upd_ne ne, hp4]
            simp
        · have ej : j = n - (i + 1) := by omega
          refine .inl ⟨by show ((n : Int) - (0 + (i : Int) + 1)).toNat ≤ j; omega, ?_⟩
          obtain ⟨e, acc, h1, h2, ts, h3, h4⟩ := c2
          refine ⟨e, acc, h1, h2, ts, h3, ?_⟩
          have z : (rowP n i).take j = rowP n i := List.take_of_length_le (by simp [rowP]; omega)
          rw [z] at h4
          rw [List.range_succ, List.flatMap_append]
          simpa using h4
    · have ei : i = n := by omega
      refine .inl ⟨by show (n : Int).toNat ≤ i; omega, ?_⟩
      obtain ⟨e, acc, h1, h2, ts, h3, h4⟩ := c
      subst ei
      subst h3
      exact k ts D H1 hD e h1 h4
def tiesL (rows : List (List Int)) : List (Int × Int) := (pairsL rows.length).filter fun p => tied rows p.1 p.2
def spTies (A : Adr) : Sp := fun vs H Q _ => ∃ (p l : Addr) (ds : List Addr) (rows : List (List Int)), vs = [.ref p] ∧ WebAt A.c_Web H p l ds rows ∧ rows.length ≤ 30 ∧ RetTups (tiesL rows) H Q
theorem pairs_in {n : Nat} {p : Int × Int} (h : p ∈ pairsL n) : ∃ i j : Nat, p = ((i : Int), (j : Int)) ∧ i < j ∧ j < n := by
  unfold pairsL rowP at h
  obtain ⟨i, hi, h⟩ := List.mem_flatMap.mp h
  obtain ⟨k, hk, rfl⟩ := List.mem_map.mp h
  have a := List.mem_range.mp hi
  have b := List.mem_range.mp hk
  exact ⟨i, i + 1 + k, rfl, by omega, by omega⟩
theorem ok_Web_ties (T : Txt K mg A) : FnOk P w K mg base CX0 2 A.a_Web_ties A.d_Web_ties ["self"] (spTies A) := by
  refine T.F_Web_ties.ok sc_Web_ties (fun vs H Q E h => ?_) (fun cdv C outer s H vs Q E hr h => ?_)
  · obtain ⟨p, l, ds, rows, rfl, _⟩ := h
    rfl
  · obtain ⟨p, l, ds, rows, rfl, W, h30, k⟩ := h
    have hu := hu_of hr
    refine ⟨_, (pss_one (ps_ret (pe_lc (own := [("one", 1), ("other", 2)]) rfl sc_Web_ties.nd (pi_list (pe_call (ok_pairs T) (hr.mono (by decide)) rfl T.g_pairs T.k_pairs T.b_pairs .nil pass0 (pa_cons (pe_meth0 (pv 0) T.cl_Web T.m_Web_many (ok_Web_many T) (hr.mono (by decide)) T.b_Web_many .nil pass0) pa_nil))) (blkOk_by (own := [("one", 1), ("other", 2)]) (N := ["self", "one", "other"]) (sc := defScope s_Web_ties) (by decide +kernel)) (fun _ _ _ _ _ => by exact (pg_tupJ (n := 2) rfl (pgs_cons (pg_name (i := 1) sc_Web_ties.nd rfl (Or.inl rfl)) (pgs_cons (pg_name (i := 2) sc_Web_ties.nd rfl (Or.inl rfl)) pgs_nil)))) (fun _ _ _ _ _ => by exact (pts_one (pt_cmp (pc_dinJ (by exact hu) (pv 2) (pe_ix ix_listJ (pe_fldK (K0 := K) (pv 0)) (pv 1) (fun _ _ => rfl)))))) (fun _ _ _ _ _ => by exact (pe_tupJ (pa_cons (pv 1) (pa_cons (pv 2) pa_nil))))))), ?_⟩
    obtain ⟨⟨dx, h1⟩, h2, h3, h4, h5⟩ := id W
    refine ⟨_, rfl, p, dx, wf l, rfl, h1, wf_many l, p, l, ds, rows, rfl, W, rows.length, rfl, h30, fun ts q H1 hq e hlq ht => ⟨q, rfl, ⟨_, .inl (.inl hlq)⟩, fun D hD => ?_⟩⟩
    have hqD : q ≠ D := fun z => by rw [z, hD] at hlq; cases hlq
    have W1 := W.up e
    refine lc_list (xs := ts.map V.ref) (CompI D H1 fun i acc H' => ∃ us : List Addr, acc = us.map V.ref ∧ TupsAt H' us (((pairsL rows.length).take i).filter fun p => tied rows p.1 p.2)) ⟨Ex.new hD, [], upd_same, by simp, [], rfl, TupsAt.nil _⟩ (fun i H' _ c => .inl (.inl (c.1 _ _ hlq))) (fun i x H' hx c => ?_) (fun H' c => ?_)
    · rw [List.getElem?_map] at hx
      cases ht0 : ts[i]? with
      | none => rw [ht0] at hx; cases hx
      | some t =>
        rw [ht0] at hx
        cases hx
        have hi : i < ts.length := (List.getElem?_eq_some_iff.mp ht0).1
        have hi' : i < (pairsL rows.length).length := by rw [← ht.1]; exact hi
        have hp0 : (pairsL rows.length)[i]? = some (pairsL rows.length)[i] := List.getElem?_eq_getElem hi'
        obtain ⟨m, n, hp, hmn, hnr⟩ := pairs_in (List.mem_of_getElem? hp0)
        have htup := ht.2 i t _ ht0 hp0
        rw [hp] at htup hp0
        obtain ⟨e2, acc, g1, g2, us, g3, g4⟩ := c
        have W2 := W1.up e2
        obtain ⟨⟨dx', w1⟩, w2, w3, w4, w5⟩ := id W2
        obtain ⟨d, b1, b2, b3⟩ := W2.at (show m < rows.length by omega)
        have hlen : acc.length < 100000 := by
          have z := g4.1
          have z1 := List.length_filter_le (fun p => tied rows p.1 p.2) ((pairsL rows.length).take i)
          have z2 := rows_len rows.length rows.length
          have z3 : rows.length * rows.length ≤ 30 * 30 := Nat.mul_le_mul h30 h30
          have z4 : ((pairsL rows.length).take i).length ≤ (pairsL rows.length).length := by rw [List.length_take]; omega
          have z5 : (pairsL rows.length).length ≤ rows.length * rows.length := z2
          rw [g3, List.length_map]; omega
        have step : (((pairsL rows.length).take (i + 1)).filter fun p => tied rows p.1 p.2) = (((pairsL rows.length).take i).filter fun p => tied rows p.1 p.2) ++ (if tied rows m n = true then [((m : Int), (n : Int))] else []) := by
          rw [List.take_add_one, hp0, List.filter_append]
          simp [List.filter_cons]
        simp only [List.getD_eq_getElem?_getD] at b2
        simp [L2.start, wipe, and_assoc, e2 _ _ htup, w1, w2, b1, b2, T.cl_Web, T.n_Web__near, wf_near, rowD_val]
        have td : tied rows m n = decide ((n : Int) ∈ rows[m]?.getD []) := by simp [tied]
        by_cases hm : (n : Int) ∈ rows[m]?.getD []
        · refine .inr ⟨hm, fun p H3 hp3 e3 hq3 => ?_⟩
          have ne : p ≠ D := fun z => by rw [z, g1] at hp3; cases hp3
          refine CompI.push hD (e2.trans e3) (e3 _ _ g1) hlen ⟨us ++ [p], by rw [g3, List.map_append]; rfl, ?_⟩
          rw [step, td, if_pos (decide_eq_true hm)]
          refine TupsAt.snoc ((g4.up e3).upd (e3 _ _ g1)) ?_
          rw [upd_ne ne, hq3]
        · refine .inl ⟨hm, e2, acc, g1, g2, us, g3, ?_⟩
          rw [step, td, if_neg (by simp [hm]), List.append_nil]
          exact g4
    · obtain ⟨e2, acc, g1, g2, us, g3, g4⟩ := c
      subst g3
      rw [List.length_map, ht.1, List.take_length] at g4
      have nq : H D = none := by
        cases z : H D with
        | none => rfl
        | some o => rw [e _ _ z] at hD; cases hD
      exact k us D H' nq (e.trans e2) g1 g4
end
end Jk

namespace Jk
open PySem L2 Evl
def spInit (A : Adr) : Sp := fun vs H Q E => ∃ (p dx : Addr) (x : V), vs = [.ref p, x] ∧ H p = some (.ins A.c_Web dx []) ∧ Thing H x ∧
  (inR x 1 30 = false → E (.ref A.c_BadSize) none H) ∧
  (inR x 1 30 = true → ∀ l ds H', WebAt A.c_Web H' p l ds (List.replicate (iOf x).toNat []) → But [p] H H' → H l = none → (∀ d ∈ ds, H d = none) → Q .non H')
section
variable {P : Program} {w : World} {K : PySem.W.Frag} {mg : Str → Option Value} {base : Heap} {A : Adr}
theorem ok_Web_init (T : Txt K mg A) : FnOk P w K mg base (L2.CX P w) 2 A.a_Web_init A.d_Web_init ["self", "many"] (spInit A) := by
  refine T.F_Web_init.okX sc_Web_init (fun vs H Q E h => ?_) (fun cdv C outer s H vs Q E hr h => ?_)
  · obtain ⟨p, dx, x, rfl, _⟩ := h
    rfl
  · obtain ⟨p, dx, x, rfl, h1, tx, k1, k2⟩ := h
    refine ⟨_, (pss_cons (ps_if (pt_not (pt_val (pe_call (ok_whole_within T) (hr.mono (by decide)) rfl T.g_whole_within T.k_whole_within T.b_whole_within .nil pass0 (pa_cons (pv 1) (pa_cons pe_int (pa_cons (pe_glob (v := .int 30) rfl T.cMOST_POINTS.choose_spec ⟨_, rfl⟩) pa_nil))))))
    (pss_one (ps_raise rfl (takes_of rfl rfl rfl rfl) (pmk_own PySem.F.excBase_ValueError T.xBadSize T.gBadSize T.kBadSize (raises_own T.bBadSize T.tBadSize) rfl)))
    pss_nil)
  (pss_one (ps_fld (pv 0) (pe_lc (own := [("point", 2)]) rfl sc_Web_init.nd (pi_range1 rfl T.range (pa_cons (pv 1) pa_nil)) (blkOk_by (own := [("point", 2)]) (N := ["self", "many", "point"]) (sc := defScope s_Web_init) (by decide +kernel)) (fun _ _ _ _ _ => by exact (pg_name (i := 2) sc_Web_init.nd rfl (Or.inl rfl))) (fun _ _ _ _ _ => by exact pts_nil) (fun _ _ _ _ _ => by exact pe_dictJ)) rfl))), ?_⟩
    simp [L2.start, and_assoc, spWhole, tx]
    cases hx : inR x 1 30 with
    | false => simpa using k1 hx
    | true =>
      obtain ⟨i, rfl, i1, i30⟩ : ∃ i, x = .int i ∧ 1 ≤ i ∧ i ≤ 30 := by
        cases x with
        | int i => simp [inR] at hx; exact ⟨i, rfl, hx.1, hx.2⟩
        | _ => cases hx
      simp
      refine ⟨_, rfl, i, rfl, by omega, by omega, fun D hD => ?_⟩
      refine lc_range (lo := 0) (n := i.toNat) (CompI D H fun k acc H' => ∃ ds : List Addr, acc = ds.map V.ref ∧ ds.length = k ∧ ds.Nodup ∧ ∀ d ∈ ds, H' d = some (.dK []) ∧ H d = none) ⟨Ex.new hD, [], upd_same, by simp, [], rfl, rfl, List.nodup_nil, fun d z => nomatch z⟩ (fun k H' hk c => ?_) (fun H' c => ?_)
      · obtain ⟨e, acc, g1, g2, ds, g3, g4, g5, g6⟩ := c
        simp [wipe, tYes]
        intro d H2 hd e2 hd2
        have ne : d ≠ D := fun z => by rw [z, g1] at hd; cases hd
        refine CompI.push hD (e.trans e2) (e2 _ _ g1) (by rw [g3, List.length_map]; omega) ⟨ds ++ [d], by rw [g3, List.map_append]; rfl, by rw [List.length_append, g4]; rfl, nd_snoc g5 (fun z => by rw [(g6 d z).1] at hd; cases hd), fun d' z => ?_⟩
        rcases List.mem_append.mp z with z | z
        · have y := e2 _ _ (g6 d' z).1
          rw [upd_ne (ne_of y (e2 _ _ g1) (by intro q; cases q))]
          exact ⟨y, (g6 d' z).2⟩
        · have z' : d' = d := by simpa using z
          subst z'
          rw [upd_ne ne]
          exact ⟨hd2, fresh_back e hd⟩
      · obtain ⟨e, acc, g1, g2, ds, g3, g4, g5, g6⟩ := c
        have hp := e _ _ h1
        subst g3
        simp [and_assoc, hp, T.cl_Web, T.n_Web__near]
        have npD : D ≠ p := fun z => by rw [z, h1] at hD; cases hD
        refine k2 hx D ds _ ⟨⟨dx, upd_same⟩, by rw [upd_ne npD]; exact g1, g5, by rw [List.length_replicate, g4]; rfl, fun k d r a b => ?_⟩ ((But.of_ex e).updT (by simp)) hD (fun d z => (g6 d z).2)
        have hd := g6 d (List.mem_of_getElem? a)
        have er : r = [] := by
          have := List.mem_of_getElem? b
          exact (List.mem_replicate.mp this).2
        subst er
        rw [upd_ne (ne_of hd.1 hp (by intro z; cases z))]
        exact hd.1
end
end Jk

namespace Jk
open PySem L2 Evl
/-! ## the class of a refusal -/
/-- the error at a, of the class at D, with a field or without -/
def XAt (H : Hp) (a D : Addr) : Prop := H a = some (ExK (.ref D) none a) ∨ ∃ d fs, KeptX H a D d fs
theorem XAt.up {H H' : Hp} {a D : Addr} (h : XAt H a D) (e : Ex H H') : XAt H' a D := h.imp (e _ _) fun ⟨d, fs, q⟩ => ⟨d, fs, q.up e⟩
section
variable {K : PySem.W.Frag} {σ : L2.St} {H : Hp} {ta tb : TE}
theorem el_lstJ {tr : TA} {vs : List V} (h : EvA tr σ H vs) (hl : vs.length ≤ 1000) : EvL (jLst tr) σ H vs := fun H1 e Q q =>
  h H1 e _ fun H2 e2 => ⟨hl, fun p H3 hp e3 h3 => q p H3 (fresh_back e2 hp) (e2.trans e3) h3⟩
theorem el_catJ {xs ys : List V} (ha : EvL ta σ H xs) (hb : EvL tb σ H ys) (z : xs.length + ys.length ≤ 100000) : EvL (tOp jCat ta tb) σ H (xs ++ ys) := fun H1 e Q q =>
  ha H1 e _ fun p H2 hp e2 h2 => hb H2 (e.trans e2) _ fun r H3 hr e3 h3 => ⟨p, r, xs, ys, rfl, rfl, e3 _ _ h2, h3, z, fun l H4 hl e4 h4 => q l H4 (fresh_back (e2.trans e3) hl) ((e2.trans e3).trans e4) h4⟩
theorem el_catV {p : Addr} {xs ys : List V} (ha : Ev ta σ H (.ref p)) (hx : H p = some (.lst xs)) (hb : EvL tb σ H ys) (z : xs.length + ys.length ≤ 100000) : EvL (tOp jCat ta tb) σ H (xs ++ ys) := fun H1 e Q q =>
  ha H1 e _ fun H2 e2 => hb H2 (e.trans e2) _ fun r H3 hr e3 h3 => ⟨p, r, xs, ys, rfl, rfl, ((e.trans e2).trans e3) _ _ hx, h3, z, fun l H4 hl e4 h4 => q l H4 (fresh_back (e2.trans e3) hl) ((e2.trans e3).trans e4) h4⟩
theorem el_repJ {xs : List V} {k : Int} (ha : EvL ta σ H xs) (hb : Ev tb σ H (.int k)) (h0 : 0 ≤ k ∧ k ≤ 1000) (z : xs.length ≤ 1000) : EvL (tOp jRep ta tb) σ H (List.replicate k.toNat xs).flatten := fun H1 e Q q =>
  ha H1 e _ fun p H2 hp e2 h2 => hb H2 (e.trans e2) _ fun H3 e3 => ⟨p, k, xs, rfl, rfl, e3 _ _ h2, h0.1, h0.2, z, fun l H4 hl e4 h4 => q l H4 (fresh_back (e2.trans e3) hl) ((e2.trans e3).trans e4) h4⟩
def rInt1 : List V → Hp → VK → Prop := fun xs H Q => (∃ i, xs = [.int i] ∧ Q (.int i) H) ∨ ∃ k, xs = [.bl k] ∧ Q (.int (if k then 1 else 0)) H
theorem ev_intb {b : Bool} (h : Ev ta σ H (.bl b)) : Ev (tCB rInt1 (tCons ta tNil)) σ H (.int (if b then 1 else 0)) := fun H1 e Q q =>
  h H1 e _ fun H2 e2 => .inr ⟨b, rfl, q H2 e2⟩
theorem ev_isX {a D : Addr} {c : V} {cv : Value} {b : Bool} (h0 : σ[0]? = some (some (.ref a))) (ha : XAt H a D) (ec : ExcC K D) (hc : ClsV c cv) (hk : PySem.W.kitOne K (.ref D) cv = some b) :
    Ev (tCB (jIsXO K) (tCons (tVar 0) (tCons (tC c) tNil))) σ H (.bl b) := fun H1 e Q q => ⟨_, h0, ha.elim (fun h => .inl ⟨a, D, c, cv, b, rfl, e _ _ h, ec, hc, hk, q H1 (Ex.refl H1)⟩) fun ⟨x, fs, h⟩ => .inr ⟨a, D, x, fs, c, cv, b, rfl, h.up e, ec, hc, hk, q H1 (Ex.refl H1)⟩⟩
def pcV (w : Str) (b : Bool) : List V := if b then [.str w] else []
def pc (w : Str) (b : Bool) : List Str := if b then [w] else []
theorem pcV_eq (w : Str) (b : Bool) : pcV w b = (pc w b).map V.str := by cases b <;> rfl
theorem pcV_len (w : Str) (b : Bool) : (pcV w b).length ≤ 1 := by cases b <;> simp [pcV]
theorem el_piece {w : Str} {b : Bool} (h : Ev ta σ H (.bl b)) : EvL (tOp jRep (jLst (tCons (tC (.str w)) tNil)) (tCB rInt1 (tCons ta tNil))) σ H (pcV w b) := by
  have z := el_repJ (el_lstJ (ea_cons (ev_c (v := .str w)) ea_nil) (by simp)) (ev_intb h) (by cases b <;> simp) (by simp)
  cases b <;> simpa [pcV] using z
end
def kinds (A : Adr) : List (Addr × Str) := [(A.c_BadSize, "size"), (A.c_BadPoint, "point"), (A.c_Twice, "twice"), (A.c_NoTie, "no tie"), (A.c_TooMany, "many"), (A.c_NoTree, "row")]
def spKind (A : Adr) : Sp := fun vs H Q _ => ∃ (a D : Addr) (z : Str), vs = [.ref a] ∧ XAt H a D ∧ (D, z) ∈ kinds A ∧ ∀ H', Ex H H' → Q (.str z) H'
section
variable {P : Program} {w : World} {K : PySem.W.Frag} {mg : Str → Option Value} {base : Heap} {A : Adr}
def allPc (b1 b2 b3 b4 b5 b6 b7 b8 b9 : Bool) : List Str := ((((((((pc "size" b1 ++ pc "point" b2) ++ pc "twice" b3) ++ pc "no tie" b4) ++ pc "many" b5) ++ pc "row" b6) ++ pc "tree" b7) ++ pc "text" b8) ++ pc "base" (!b9))
structure Asked (K : PySem.W.Frag) (A : Adr) (D : Addr) (z : Str) (b1 b2 b3 b4 b5 b6 b7 b8 b9 : Bool) : Prop where
  ec : ExcC K D
  h1 : PySem.W.kitOne K (.ref D) (.ref A.c_BadSize) = some b1
  h2 : PySem.W.kitOne K (.ref D) (.ref A.c_BadPoint) = some b2
  h3 : PySem.W.kitOne K (.ref D) (.ref A.c_Twice) = some b3
  h4 : PySem.W.kitOne K (.ref D) (.ref A.c_NoTie) = some b4
  h5 : PySem.W.kitOne K (.ref D) (.ref A.c_TooMany) = some b5
  h6 : PySem.W.kitOne K (.ref D) (.ref A.c_NoTree) = some b6
  h7 : PySem.W.kitOne K (.ref D) (.ref A.c_BadTree) = some b7
  h8 : PySem.W.kitOne K (.ref D) (.ref A.c_BadText) = some b8
  h9 : PySem.W.kitOne K (.ref D) (.type "ValueError") = some b9
  all : Txt.join "/" (allPc b1 b2 b3 b4 b5 b6 b7 b8 b9) = z
  len : ((allPc b1 b2 b3 b4 b5 b6 b7 b8 b9).map (fun y => y.length)).sum + (allPc b1 b2 b3 b4 b5 b6 b7 b8 b9).length ≤ 1000
theorem asked_of (T : Txt K mg A) {D : Addr} {z : Str} (h : (D, z) ∈ kinds A) : ∃ b1 b2 b3 b4 b5 b6 b7 b8 b9, Asked K A D z b1 b2 b3 b4 b5 b6 b7 b8 b9 := by
  unfold kinds at h
  simp only [List.mem_cons, Prod.mk.injEq, List.not_mem_nil, or_false] at h
  rcases h with ⟨rfl, rfl⟩ | ⟨rfl, rfl⟩ | ⟨rfl, rfl⟩ | ⟨rfl, rfl⟩ | ⟨rfl, rfl⟩ | ⟨rfl, rfl⟩
  · exact ⟨_, _, _, _, _, _, _, _, _, T.ec_BadSize, T.is_BadSize_BadSize, T.is_BadSize_BadPoint, T.is_BadSize_Twice, T.is_BadSize_NoTie, T.is_BadSize_TooMany, T.is_BadSize_NoTree, T.is_BadSize_BadTree, T.is_BadSize_BadText, T.is_BadSize_ValueError, by decide +kernel, by decide +kernel⟩
  · exact ⟨_, _, _, _, _, _, _, _, _, T.ec_BadPoint, T.is_BadPoint_BadSize, T.is_BadPoint_BadPoint, T.is_BadPoint_Twice, T.is_BadPoint_NoTie, T.is_BadPoint_TooMany, T.is_BadPoint_NoTree, T.is_BadPoint_BadTree, T.is_BadPoint_BadText, T.is_BadPoint_ValueError, by decide +kernel, by decide +kernel⟩
  · exact ⟨_, _, _, _, _, _, _, _, _, T.ec_Twice, T.is_Twice_BadSize, T.is_Twice_BadPoint, T.is_Twice_Twice, T.is_Twice_NoTie, T.is_Twice_TooMany, T.is_Twice_NoTree, T.is_Twice_BadTree, T.is_Twice_BadText, T.is_Twice_ValueError, by decide +kernel, by decide +kernel⟩
  · exact ⟨_, _, _, _, _, _, _, _, _, T.ec_NoTie, T.is_NoTie_BadSize, T.is_NoTie_BadPoint, T.is_NoTie_Twice, T.is_NoTie_NoTie, T.is_NoTie_TooMany, T.is_NoTie_NoTree, T.is_NoTie_BadTree, T.is_NoTie_BadText, T.is_NoTie_ValueError, by decide +kernel, by decide +kernel⟩
  · exact ⟨_, _, _, _, _, _, _, _, _, T.ec_TooMany, T.is_TooMany_BadSize, T.is_TooMany_BadPoint, T.is_TooMany_Twice, T.is_TooMany_NoTie, T.is_TooMany_TooMany, T.is_TooMany_NoTree, T.is_TooMany_BadTree, T.is_TooMany_BadText, T.is_TooMany_ValueError, by decide +kernel, by decide +kernel⟩
  · exact ⟨_, _, _, _, _, _, _, _, _, T.ec_NoTree, T.is_NoTree_BadSize, T.is_NoTree_BadPoint, T.is_NoTree_Twice, T.is_NoTree_NoTie, T.is_NoTree_TooMany, T.is_NoTree_NoTree, T.is_NoTree_BadTree, T.is_NoTree_BadText, T.is_NoTree_ValueError, by decide +kernel, by decide +kernel⟩
theorem ok_l_kind (T : Txt K mg A) : FnOk P w K mg base CX0 1 A.a_l_kind A.d_l_kind ["_law_e"] (spKind A) := by
  refine T.F_l_kind.ok sc_l_kind (fun vs H Q E h => ?_) (fun cdv C outer s H vs Q E hr h => ?_)
  · obtain ⟨a, D, z, rfl, _⟩ := h
    rfl
  · obtain ⟨a, D, z, rfl, ha, hm, k⟩ := h
    obtain ⟨b1, b2, b3, b4, b5, b6, b7, b8, b9, S⟩ := asked_of T hm
    refine ⟨_, (pss_cons (ps_set (i := 1) sc_l_kind.nd rfl (Or.inl rfl) (pe_op op_catJ (pe_op op_repJ (pe_lstJ (pa_cons pe_str pa_nil)) (pe_callTy call_int1 (by rfl) T.int (by decide +kernel) (pa_cons (pe_callB (call_isXO (K0 := K)) (by rfl) T.isinstance (by decide +kernel) (pa_cons (pv 0) (pa_cons (pe_glob (v := .ref A.c_BadSize) rfl T.gBadSize rfl) pa_nil))) pa_nil))) (pe_op op_repJ (pe_lstJ (pa_cons pe_str pa_nil)) (pe_callTy call_int1 (by rfl) T.int (by decide +kernel) (pa_cons (pe_callB (call_isXO (K0 := K)) (by rfl) T.isinstance (by decide +kernel) (pa_cons (pv 0) (pa_cons (pe_glob (v := .ref A.c_BadPoint) rfl T.gBadPoint rfl) pa_nil))) pa_nil)))))
  (pss_cons (ps_set (i := 1) sc_l_kind.nd rfl (Or.inl rfl) (pe_op op_catJ (pe_op op_catJ (pv 1) (pe_op op_repJ (pe_lstJ (pa_cons pe_str pa_nil)) (pe_callTy call_int1 (by rfl) T.int (by decide +kernel) (pa_cons (pe_callB (call_isXO (K0 := K)) (by rfl) T.isinstance (by decide +kernel) (pa_cons (pv 0) (pa_cons (pe_glob (v := .ref A.c_Twice) rfl T.gTwice rfl) pa_nil))) pa_nil)))) (pe_op op_repJ (pe_lstJ (pa_cons pe_str pa_nil)) (pe_callTy call_int1 (by rfl) T.int (by decide +kernel) (pa_cons (pe_callB (call_isXO (K0 := K)) (by rfl) T.isinstance (by decide +kernel) (pa_cons (pv 0) (pa_cons (pe_glob (v := .ref A.c_NoTie) rfl T.gNoTie rfl) pa_nil))) pa_nil)))))
  (pss_cons (ps_set (i := 1) sc_l_kind.nd rfl (Or.inl rfl) (pe_op op_catJ (pe_op op_catJ (pv 1) (pe_op op_repJ (pe_lstJ (pa_cons pe_str pa_nil)) (pe_callTy call_int1 (by rfl) T.int (by decide +kernel) (pa_cons (pe_callB (call_isXO (K0 := K)) (by rfl) T.isinstance (by decide +kernel) (pa_cons (pv 0) (pa_cons (pe_glob (v := .ref A.c_TooMany) rfl T.gTooMany rfl) pa_nil))) pa_nil)))) (pe_op op_repJ (pe_lstJ (pa_cons pe_str pa_nil)) (pe_callTy call_int1 (by rfl) T.int (by decide +kernel) (pa_cons (pe_callB (call_isXO (K0 := K)) (by rfl) T.isinstance (by decide +kernel) (pa_cons (pv 0) (pa_cons (pe_glob (v := .ref A.c_NoTree) rfl T.gNoTree rfl) pa_nil))) pa_nil)))))
  (pss_cons (ps_set (i := 1) sc_l_kind.nd rfl (Or.inl rfl) (pe_op op_catJ (pe_op op_catJ (pv 1) (pe_op op_repJ (pe_lstJ (pa_cons pe_str pa_nil)) (pe_callTy call_int1 (by rfl) T.int (by decide +kernel) (pa_cons (pe_callB (call_isXO (K0 := K)) (by rfl) T.isinstance (by decide +kernel) (pa_cons (pv 0) (pa_cons (pe_glob (v := .ref A.c_BadTree) rfl T.gBadTree rfl) pa_nil))) pa_nil)))) (pe_op op_repJ (pe_lstJ (pa_cons pe_str pa_nil)) (pe_callTy call_int1 (by rfl) T.int (by decide +kernel) (pa_cons (pe_callB (call_isXO (K0 := K)) (by rfl) T.isinstance (by decide +kernel) (pa_cons (pv 0) (pa_cons (pe_glob (v := .ref A.c_BadText) rfl T.gBadText rfl) pa_nil))) pa_nil)))))
  (pss_one (ps_ret (pe_join pe_str (pe_op op_catJ (pv 1) (pe_op op_repJ (pe_lstJ (pa_cons pe_str pa_nil)) (pe_callTy call_int1 (by rfl) T.int (by decide +kernel) (pa_cons (pe_not (pe_callB (call_isXO (K0 := K)) (by rfl) T.isinstance (by decide +kernel) (pa_cons (pv 0) (pa_cons (pe_bltn (v := .ty "ValueError") (u := .type "ValueError") (by rfl) T.ValueError (by decide +kernel) rfl) pa_nil)))) pa_nil))))))))))), ?_⟩
    refine q_asgL (el_catJ (el_piece (ev_isX rfl ha S.ec (.own _) S.h1)) (el_piece (ev_isX rfl ha S.ec (.own _) S.h2)) ?_) (fun p1 H1 n1 e1 g1 => ?_)
    · have := pcV_len "size" b1; have := pcV_len "point" b2; omega
    have a1 := ha.up e1
    have l1 : ∀ (w : Str) (b : Bool), (pcV w b).length ≤ 1 := pcV_len
    refine q_asgL (el_catJ (el_catV (ev_var rfl) g1 (el_piece (ev_isX rfl a1 S.ec (.own _) S.h3)) ?_) (el_piece (ev_isX rfl a1 S.ec (.own _) S.h4)) ?_) (fun p2 H2 n2 e2 g2 => ?_)
    · simp only [List.length_append]; have := l1 "size" b1; have := l1 "point" b2; have := l1 "twice" b3; omega
    · simp only [List.length_append]; have := l1 "size" b1; have := l1 "point" b2; have := l1 "twice" b3; have := l1 "no tie" b4; omega
    have a2 := a1.up e2
    refine q_asgL (el_catJ (el_catV (ev_var rfl) g2 (el_piece (ev_isX rfl a2 S.ec (.own _) S.h5)) ?_) (el_piece (ev_isX rfl a2 S.ec (.own _) S.h6)) ?_) (fun p3 H3 n3 e3 g3 => ?_)
    · simp only [List.length_append]; have := l1 "size" b1; have := l1 "point" b2; have := l1 "twice" b3; have := l1 "no tie" b4; have := l1 "many" b5; omega
    · simp only [List.length_append]; have := l1 "size" b1; have := l1 "point" b2; have := l1 "twice" b3; have := l1 "no tie" b4; have := l1 "many" b5; have := l1 "row" b6; omega
    have a3 := a2.up e3
    refine q_asgL (el_catJ (el_catV (ev_var rfl) g3 (el_piece (ev_isX rfl a3 S.ec (.own _) S.h7)) ?_) (el_piece (ev_isX rfl a3 S.ec (.own _) S.h8)) ?_) (fun p4 H4 n4 e4 g4 => ?_)
    · simp only [List.length_append]; have := l1 "size" b1; have := l1 "point" b2; have := l1 "twice" b3; have := l1 "no tie" b4; have := l1 "many" b5; have := l1 "row" b6; have := l1 "tree" b7; omega
    · simp only [List.length_append]; have := l1 "size" b1; have := l1 "point" b2; have := l1 "twice" b3; have := l1 "no tie" b4; have := l1 "many" b5; have := l1 "row" b6; have := l1 "tree" b7; have := l1 "text" b8; omega
    have a4 := a3.up e4
    refine ⟨⟨_, rfl⟩, el_catV (ev_var rfl) g4 (el_piece (ev_notV (ev_isX rfl a4 S.ec (.ty _) S.h9))) ?_ H4 (Ex.refl _) _ fun p5 H5 n5 e5 g5 => ?_⟩
    · simp only [List.length_append]; have := l1 "size" b1; have := l1 "point" b2; have := l1 "twice" b3; have := l1 "no tie" b4; have := l1 "many" b5; have := l1 "row" b6; have := l1 "tree" b7; have := l1 "text" b8; have := l1 "base" (!b9); omega
    refine ⟨"/", p5, allPc b1 b2 b3 b4 b5 b6 b7 b8 b9, rfl, rfl, .inl (.inl (.inl ?_)), ?_, ?_⟩
    · rw [g5]
      simp only [allPc, List.map_append, pcV_eq]
    · have := S.len
      have e : (Str.ofString "/").length = 1 := by decide +kernel
      rw [e, Nat.mul_one]
      exact Nat.le_trans this (by decide)
    · rw [S.all]
      exact k _ ((((e1.trans e2).trans e3).trans e4).trans e5)
end
end Jk

namespace Jk
open PySem L2 Evl
/-! ## webs and ties, as they are counted -/
theorem getD_set (rows : List (List Int)) (i k : Nat) (x : List Int) (hi : i < rows.length) : (rows.set i x).getD k [] = if k = i then x else rows.getD k [] := by
  by_cases h : k = i
  · subst h
    rw [if_pos rfl, List.getD_eq_getElem?_getD, List.getElem?_set_self hi]; rfl
  · rw [if_neg h, List.getD_eq_getElem?_getD, List.getElem?_set_ne (Ne.symm h), ← List.getD_eq_getElem?_getD]
theorem getD_mem {rows : List (List Int)} {i : Nat} (h : i < rows.length) : rows.getD i [] ∈ rows := by
  rw [List.getD_eq_getElem?_getD, List.getElem?_eq_getElem h]
  exact List.getElem_mem h
theorem getD_far {rows : List (List Int)} {i : Nat} (h : ¬ i < rows.length) : rows.getD i [] = [] := by
  rw [List.getD_eq_getElem?_getD, List.getElem?_eq_none (by omega)]; rfl
structure Good (rows : List (List Int)) : Prop where
  one : 1 ≤ rows.length
  few : rows.length ≤ 30
  sy : Sym rows
  nd : ∀ i : Nat, (rows.getD i []).Nodup
  rng : ∀ (i : Nat) (j : Int), j ∈ rows.getD i [] → 0 ≤ j ∧ j < rows.length
  irr : ∀ i : Nat, ¬ (i : Int) ∈ rows.getD i []
def tN (rows : List (List Int)) (i j : Nat) : Prop := (j : Int) ∈ rows.getD i []
theorem tied_iff (rows : List (List Int)) (i j : Nat) : tied rows i j = true ↔ tN rows i j := by
  unfold tied tN
  rw [decide_eq_true_iff]
  rfl
theorem len_putR (rows : List (List Int)) (i j : Nat) : (putR rows i j).length = rows.length := by unfold putR; rw [List.length_set, List.length_set]
theorem len_takeR (rows : List (List Int)) (i j : Nat) : (takeR rows i j).length = rows.length := by unfold takeR; rw [List.length_set, List.length_set]
theorem putR_at (rows : List (List Int)) (i j k : Nat) (hi : i < rows.length) (hj : j < rows.length) : (putR rows i j).getD k [] = if k = j then rows.getD j [] ++ [(i : Int)] else if k = i then rows.getD i [] ++ [(j : Int)] else rows.getD k [] := by
  unfold putR
  rw [getD_set _ _ _ _ (by rw [List.length_set]; exact hj), getD_set _ _ _ _ hi]
theorem takeR_at (rows : List (List Int)) (i j k : Nat) (hi : i < rows.length) (hj : j < rows.length) : (takeR rows i j).getD k [] = if k = j then (rows.getD j []).filter (fun z => decide (z ≠ (i : Int))) else if k = i then (rows.getD i []).filter (fun z => decide (z ≠ (j : Int))) else rows.getD k [] := by
  unfold takeR
  rw [getD_set _ _ _ _ (by rw [List.length_set]; exact hj), getD_set _ _ _ _ hi]
theorem tN_put {rows : List (List Int)} {i j : Nat} (hi : i < rows.length) (hj : j < rows.length) (hij : i ≠ j) (a b : Nat) : tN (putR rows i j) a b ↔ tN rows a b ∨ (a = i ∧ b = j) ∨ (a = j ∧ b = i) := by
  unfold tN
  rw [putR_at _ _ _ _ hi hj]
  by_cases h1 : a = j
  · subst h1
    rw [if_pos rfl, List.mem_append, List.mem_singleton]
    constructor
    · rintro (h | h)
      · exact .inl h
      · exact .inr (.inr ⟨rfl, by omega⟩)
    · rintro (h | ⟨h, _⟩ | ⟨_, h⟩)
      · exact .inl h
      · exact absurd h.symm hij
      · exact .inr (by omega)
  · rw [if_neg h1]
    by_cases h2 : a = i
    · subst h2
      rw [if_pos rfl, List.mem_append, List.mem_singleton]
      constructor
      · rintro (h | h)
        · exact .inl h
        · exact .inr (.inl ⟨rfl, by omega⟩)
      · rintro (h | ⟨_, h⟩ | ⟨h, _⟩)
        · exact .inl h
        · exact .inr (by omega)
        · exact absurd h h1
    · rw [if_neg h2]
      constructor
      · exact .inl
      · rintro (h | ⟨h, _⟩ | ⟨h, _⟩)
        · exact h
        · exact absurd h h2
        · exact absurd h h1
theorem tN_take {rows : List (List Int)} {i j : Nat} (hi : i < rows.length) (hj : j < rows.length) (hij : i ≠ j) (a b : Nat) : tN (takeR rows i j) a b ↔ tN rows a b ∧ ¬ (a = i ∧ b = j) ∧ ¬ (a = j ∧ b = i) := by
  unfold tN
  rw [takeR_at _ _ _ _ hi hj]
  by_cases h1 : a = j
  · subst h1
    rw [if_pos rfl, List.mem_filter, decide_eq_true_iff]
    constructor
    · rintro ⟨h, h'⟩
      exact ⟨h, fun ⟨q, _⟩ => hij q.symm, fun ⟨_, q⟩ => h' (by omega)⟩
    · rintro ⟨h, _, h'⟩
      exact ⟨h, fun q => h' ⟨rfl, by omega⟩⟩
  · rw [if_neg h1]
    by_cases h2 : a = i
    · subst h2
      rw [if_pos rfl, List.mem_filter, decide_eq_true_iff]
      constructor
      · rintro ⟨h, h'⟩
        exact ⟨h, fun ⟨_, q⟩ => h' (by omega), fun ⟨q, _⟩ => h1 q⟩
      · rintro ⟨h, h', _⟩
        exact ⟨h, fun q => h' ⟨rfl, by omega⟩⟩
    · rw [if_neg h2]
      exact ⟨fun h => ⟨h, fun ⟨q, _⟩ => h2 q, fun ⟨q, _⟩ => h1 q⟩, fun h => h.1⟩
theorem nd_add {l : List Int} {x : Int} (h : l.Nodup) (hx : ¬ x ∈ l) : (l ++ [x]).Nodup := nd_snoc h hx
theorem Good.lt {rows : List (List Int)} (G : Good rows) {i j : Nat} (h : tN rows i j) : i < rows.length ∧ j < rows.length := by
  have hi : i < rows.length := by
    by_cases q : i < rows.length
    · exact q
    · unfold tN at h; rw [getD_far q] at h; cases h
  have := (G.rng i j h).2
  exact ⟨hi, by omega⟩
theorem Good.symm {rows : List (List Int)} (G : Good rows) {i j : Nat} (h : tN rows i j) : tN rows j i := (G.sy i j (G.lt h).1 (G.lt h).2).mp h
theorem good_put {rows : List (List Int)} (G : Good rows) {i j : Nat} (hi : i < rows.length) (hj : j < rows.length) (hij : i ≠ j) (h : ¬ tN rows i j) : Good (putR rows i j) := by
  have h' : ¬ tN rows j i := fun z => h (G.symm z)
  refine ⟨by rw [len_putR]; exact G.one, by rw [len_putR]; exact G.few, fun a b ha hb => ?_, fun a => ?_, fun a b hb => ?_, fun a ha => ?_⟩
  · show tN _ a b ↔ tN _ b a
    rw [len_putR] at ha hb
    rw [tN_put hi hj hij, tN_put hi hj hij]
    have := G.sy a b ha hb
    have t : tN rows a b ↔ tN rows b a := this
    rw [t]
    constructor <;> rintro (q | ⟨q, r⟩ | ⟨q, r⟩) <;> first | exact .inl q | exact .inr (.inl ⟨r, q⟩) | exact .inr (.inr ⟨r, q⟩)
  · rw [putR_at _ _ _ _ hi hj]
    split
    · exact nd_add (G.nd j) h'
    · split
      · exact nd_add (G.nd i) h
      · exact G.nd a
  · rw [len_putR]
    rw [putR_at _ _ _ _ hi hj] at hb
    split at hb
    · rcases List.mem_append.mp hb with q | q
      · exact G.rng j b q
      · have : b = (i : Int) := by simpa using q
        omega
    · split at hb
      · rcases List.mem_append.mp hb with q | q
        · exact G.rng i b q
        · have : b = (j : Int) := by simpa using q
          omega
      · exact G.rng a b hb
  · have ha' : tN (putR rows i j) a a := ha
    rw [tN_put hi hj hij] at ha'
    rcases ha' with q | ⟨q, r⟩ | ⟨q, r⟩
    · exact G.irr a q
    · exact hij (q.symm.trans r)
    · exact hij (r.symm.trans q)
theorem good_take {rows : List (List Int)} (G : Good rows) {i j : Nat} (hi : i < rows.length) (hj : j < rows.length) (hij : i ≠ j) : Good (takeR rows i j) := by
  refine ⟨by rw [len_takeR]; exact G.one, by rw [len_takeR]; exact G.few, fun a b ha hb => ?_, fun a => ?_, fun a b hb => ?_, fun a ha => ?_⟩
  · show tN _ a b ↔ tN _ b a
    rw [len_takeR] at ha hb
    rw [tN_take hi hj hij, tN_take hi hj hij]
    have t : tN rows a b ↔ tN rows b a := G.sy a b ha hb
    rw [t]
    constructor <;> rintro ⟨q, r, s⟩ <;> exact ⟨q, fun z => s ⟨z.2, z.1⟩, fun z => r ⟨z.2, z.1⟩⟩
  · rw [takeR_at _ _ _ _ hi hj]
    split
    · exact (G.nd j).sublist List.filter_sublist
    · split
      · exact (G.nd i).sublist List.filter_sublist
      · exact G.nd a
  · rw [len_takeR]
    rw [takeR_at _ _ _ _ hi hj] at hb
    split at hb
    · exact G.rng j b (List.mem_filter.mp hb).1
    · split at hb
      · exact G.rng i b (List.mem_filter.mp hb).1
      · exact G.rng a b hb
  · have ha' : tN (takeR rows i j) a a := ha
    rw [tN_take hi hj hij] at ha'
    exact G.irr a ha'.1
theorem grow_at (rows : List (List Int)) (k : Nat) : (rows ++ [[]]).getD k [] = rows.getD k [] := by
  by_cases h : k < rows.length
  · rw [List.getD_eq_getElem?_getD, List.getElem?_append_left h, ← List.getD_eq_getElem?_getD]
  · rw [getD_far h, List.getD_eq_getElem?_getD, List.getElem?_append_right (by omega)]
    cases k - rows.length with
    | zero => rfl
    | succ n => rfl
theorem good_grow {rows : List (List Int)} (G : Good rows) (h : rows.length < 30) : Good (rows ++ [[]]) := by
  have e : (rows ++ [[]]).length = rows.length + 1 := by simp
  refine ⟨by omega, by omega, fun a b _ _ => ?_, fun a => by rw [grow_at]; exact G.nd a, fun a b hb => ?_, fun a => by rw [grow_at]; exact G.irr a⟩
  · rw [grow_at, grow_at]
    exact ⟨fun z => G.symm z, fun z => G.symm z⟩
  · rw [grow_at] at hb
    have := G.rng a b hb
    omega
theorem good_init {n : Nat} (h1 : 1 ≤ n) (h2 : n ≤ 30) : Good (List.replicate n []) := by
  have e : ∀ k : Nat, (List.replicate n ([] : List Int)).getD k [] = [] := fun k => by
    rw [List.getD_eq_getElem?_getD, List.getElem?_replicate]
    split <;> rfl
  refine ⟨by simpa using h1, by simpa using h2, fun a b _ _ => ?_, fun a => ?_, fun a b hb => ?_, fun a ha => ?_⟩
  · rw [e, e]; simp
  · rw [e]; exact List.nodup_nil
  · rw [e] at hb; cases hb
  · rw [e] at ha; cases ha
/-! the law's own ties -/
structure Rel (rows : List (List Int)) (n : Int) (ties : List (Int × Int)) : Prop where
  n : n = (rows.length : Int)
  nd : ties.Nodup
  ti : ∀ p : Int × Int, p ∈ ties ↔ ∃ i j : Nat, p = ((i : Int), (j : Int)) ∧ i < j ∧ tN rows i j
theorem pairs_iff {n : Nat} {p : Int × Int} : p ∈ pairsL n ↔ ∃ i j : Nat, p = ((i : Int), (j : Int)) ∧ i < j ∧ j < n := by
  refine ⟨pairs_in, ?_⟩
  rintro ⟨i, j, rfl, h1, h2⟩
  unfold pairsL rowP
  refine List.mem_flatMap.mpr ⟨i, List.mem_range.mpr (by omega), List.mem_map.mpr ⟨j - (i + 1), List.mem_range.mpr (by omega), ?_⟩⟩
  rw [show i + 1 + (j - (i + 1)) = j by omega]
def lexLt (p q : Int × Int) : Prop := p.1 < q.1 ∨ (p.1 = q.1 ∧ p.2 < q.2)
theorem pairs_sorted (n : Nat) : (pairsL n).Pairwise lexLt := by
  unfold pairsL
  rw [List.pairwise_flatMap]
  refine ⟨fun i _ => ?_, ?_⟩
  · unfold rowP
    rw [List.pairwise_map]
    refine List.Pairwise.imp ?_ List.pairwise_lt_range
    intro a b h
    exact .inr ⟨rfl, by show ((i + 1 + a : Nat) : Int) < ((i + 1 + b : Nat) : Int); omega⟩
  · refine List.Pairwise.imp ?_ List.pairwise_lt_range
    intro a b h x hx y hy
    unfold rowP at hx hy
    obtain ⟨_, _, rfl⟩ := List.mem_map.mp hx
    obtain ⟨_, _, rfl⟩ := List.mem_map.mp hy
    exact .inl (by show (a : Int) < b; omega)
theorem lexLt_ne {p q : Int × Int} (h : lexLt p q) : p ≠ q := by
  intro e
  subst e
  unfold lexLt at h
  omega
theorem ties_sorted (rows : List (List Int)) : (tiesL rows).Pairwise lexLt := (pairs_sorted _).sublist List.filter_sublist
theorem ties_nd (rows : List (List Int)) : (tiesL rows).Nodup := (ties_sorted rows).imp lexLt_ne
theorem ties_iff {rows : List (List Int)} (G : Good rows) {p : Int × Int} : p ∈ tiesL rows ↔ ∃ i j : Nat, p = ((i : Int), (j : Int)) ∧ i < j ∧ tN rows i j := by
  unfold tiesL
  rw [List.mem_filter, pairs_iff]
  constructor
  · rintro ⟨⟨i, j, rfl, h1, h2⟩, h3⟩
    exact ⟨i, j, rfl, h1, (tied_iff rows i j).mp h3⟩
  · rintro ⟨i, j, rfl, h1, h2⟩
    exact ⟨⟨i, j, rfl, h1, (G.lt h2).2⟩, (tied_iff rows i j).mpr h2⟩
theorem Rel.perm {rows : List (List Int)} {n : Int} {ties : List (Int × Int)} (G : Good rows) (R : Rel rows n ties) : ties.Perm (tiesL rows) :=
  (List.perm_ext_iff_of_nodup R.nd (ties_nd rows)).mpr fun p => by rw [R.ti, ties_iff G]
theorem lexLe_anti {p q : Int × Int} (h1 : lexLe p q) (h2 : lexLe q p) : p = q := by
  unfold lexLe at h1 h2
  exact Prod.ext (by omega) (by omega)
theorem sorted_ties {rows : List (List Int)} {n : Int} {ties qs : List (Int × Int)} (G : Good rows) (R : Rel rows n ties) (hp : qs.Perm ties) (hs : qs.Pairwise lexLe) : qs = tiesL rows :=
  List.Perm.eq_of_pairwise (fun a b _ _ h1 h2 => lexLe_anti h1 h2) hs ((ties_sorted rows).imp fun h => by unfold lexLt at h; unfold lexLe; omega) (hp.trans (R.perm G))
theorem Rel.few {rows : List (List Int)} {n : Int} {ties : List (Int × Int)} (G : Good rows) (R : Rel rows n ties) : ties.length ≤ 900 := by
  rw [(R.perm G).length_eq]
  have z1 : (tiesL rows).length ≤ (pairsL rows.length).length := List.length_filter_le _ _
  have z2 := rows_len rows.length rows.length
  have z3 : rows.length * rows.length ≤ 30 * 30 := Nat.mul_le_mul G.few G.few
  have z5 : (pairsL rows.length).length ≤ rows.length * rows.length := z2
  omega
theorem rel_init {n : Nat} : Rel (List.replicate n []) (n : Int) [] := by
  refine ⟨by simp, List.nodup_nil, fun p => ⟨fun h => (by cases h), ?_⟩⟩
  rintro ⟨i, j, _, _, h⟩
  unfold tN at h
  rw [List.getD_eq_getElem?_getD, List.getElem?_replicate] at h
  split at h <;> cases h
def tieN (i j : Nat) : Int × Int := (((min i j : Nat) : Int), ((max i j : Nat) : Int))
theorem Rel.tie {rows : List (List Int)} {n : Int} {ties : List (Int × Int)} (G : Good rows) (R : Rel rows n ties) {i j : Nat} (hij : i ≠ j) : tieN i j ∈ ties ↔ tN rows i j := by
  rw [R.ti]
  constructor
  · rintro ⟨a, b, e, h1, h2⟩
    have e1 : ((min i j : Nat) : Int) = a := (Prod.mk.inj e).1
    have e2 : ((max i j : Nat) : Int) = b := (Prod.mk.inj e).2
    by_cases h : i < j
    · rw [show i = a by omega, show j = b by omega]; exact h2
    · rw [show i = b by omega, show j = a by omega]; exact G.symm h2
  · intro h
    by_cases q : i < j
    · exact ⟨i, j, Prod.ext (by show ((min i j : Nat) : Int) = i; omega) (by show ((max i j : Nat) : Int) = j; omega), q, h⟩
    · exact ⟨j, i, Prod.ext (by show ((min i j : Nat) : Int) = j; omega) (by show ((max i j : Nat) : Int) = i; omega), by omega, G.symm h⟩
theorem rel_put {rows : List (List Int)} {n : Int} {ties : List (Int × Int)} (G : Good rows) (R : Rel rows n ties) {i j : Nat} (hi : i < rows.length) (hj : j < rows.length) (hij : i ≠ j) (h : ¬ tN rows i j) : Rel (putR rows i j) n (ties ++ [tieN i j]) := by
  refine ⟨by rw [len_putR]; exact R.n, nd_snoc R.nd fun z => h ((R.tie G hij).mp z), fun p => ?_⟩
  rw [List.mem_append, R.ti, List.mem_singleton]
  constructor
  · rintro (⟨a, b, rfl, h1, h2⟩ | rfl)
    · exact ⟨a, b, rfl, h1, (tN_put hi hj hij a b).mpr (.inl h2)⟩
    · refine ⟨min i j, max i j, rfl, by omega, (tN_put hi hj hij _ _).mpr ?_⟩
      by_cases q : i < j
      · exact .inr (.inl ⟨by omega, by omega⟩)
      · exact .inr (.inr ⟨by omega, by omega⟩)
  · rintro ⟨a, b, rfl, h1, h2⟩
    rcases (tN_put hi hj hij a b).mp h2 with q | ⟨rfl, rfl⟩ | ⟨rfl, rfl⟩
    · exact .inl ⟨a, b, rfl, h1, q⟩
    · exact .inr (Prod.ext (by show (a : Int) = ((min a b : Nat) : Int); omega) (by show (b : Int) = ((max a b : Nat) : Int); omega))
    · exact .inr (Prod.ext (by show (a : Int) = ((min b a : Nat) : Int); omega) (by show (b : Int) = ((max b a : Nat) : Int); omega))
theorem rel_take {rows : List (List Int)} {n : Int} {ties : List (Int × Int)} (R : Rel rows n ties) {i j : Nat} (hi : i < rows.length) (hj : j < rows.length) (hij : i ≠ j) : Rel (takeR rows i j) n (ties.filter fun p => decide (p ≠ tieN i j)) := by
  refine ⟨by rw [len_takeR]; exact R.n, R.nd.sublist List.filter_sublist, fun p => ?_⟩
  rw [List.mem_filter, R.ti, decide_eq_true_iff]
  constructor
  · rintro ⟨⟨a, b, rfl, h1, h2⟩, h3⟩
    refine ⟨a, b, rfl, h1, (tN_take hi hj hij a b).mpr ⟨h2, fun ⟨q, r⟩ => h3 ?_, fun ⟨q, r⟩ => h3 ?_⟩⟩
    · subst q r
      exact Prod.ext (by show (a : Int) = ((min a b : Nat) : Int); omega) (by show (b : Int) = ((max a b : Nat) : Int); omega)
    · subst q r
      exact Prod.ext (by show (a : Int) = ((min b a : Nat) : Int); omega) (by show (b : Int) = ((max b a : Nat) : Int); omega)
  · rintro ⟨a, b, rfl, h1, h2⟩
    obtain ⟨q, r, s⟩ := (tN_take hi hj hij a b).mp h2
    refine ⟨⟨a, b, rfl, h1, q⟩, fun z => ?_⟩
    have e1 : (a : Int) = ((min i j : Nat) : Int) := (Prod.mk.inj z).1
    have e2 : (b : Int) = ((max i j : Nat) : Int) := (Prod.mk.inj z).2
    by_cases h : i < j
    · exact r ⟨by omega, by omega⟩
    · exact s ⟨by omega, by omega⟩
theorem rel_grow {rows : List (List Int)} {n : Int} {ties : List (Int × Int)} (R : Rel rows n ties) : Rel (rows ++ [[]]) (n + 1) ties := by
  refine ⟨by rw [R.n]; simp, R.nd, fun p => ?_⟩
  rw [R.ti]
  unfold tN
  simp only [grow_at]
/-! rows are short -/
theorem Good.row {rows : List (List Int)} (G : Good rows) (i : Nat) : (rows.getD i []).length ≤ 30 := by
  have e : (rows.getD i []).Perm (((List.range rows.length).map fun (k : Nat) => (k : Int)).filter fun z => decide (z ∈ rows.getD i [])) := by
    refine (List.perm_ext_iff_of_nodup (G.nd i) ?_).mpr fun z => ?_
    · refine List.Pairwise.sublist List.filter_sublist ?_
      rw [List.pairwise_map]
      exact List.pairwise_lt_range.imp fun h => by omega
    · rw [List.mem_filter, decide_eq_true_iff, List.mem_map]
      constructor
      · intro h
        have := G.rng i z h
        exact ⟨⟨z.toNat, List.mem_range.mpr (by omega), by omega⟩, h⟩
      · exact fun h => h.2
  rw [e.length_eq]
  refine Nat.le_trans (List.length_filter_le _ _) ?_
  rw [List.length_map, List.length_range]
  exact G.few
theorem Good.small {rows : List (List Int)} (G : Good rows) : ∀ r ∈ rows, r.length ≤ 60 := fun r h => by
  obtain ⟨i, hi, rfl⟩ := List.mem_iff_getElem.mp h
  have := G.row i
  rw [List.getD_eq_getElem?_getD, List.getElem?_eq_getElem hi] at this
  have this : rows[i].length ≤ 30 := this
  omega
section
variable {P : Program} {w : World} {K : PySem.W.Frag} {mg : Str → Option Value} {base : Heap} {A : Adr}
/-! a refusal kept as a value -/
theorem exmJ (T : Txt K mg A) {D : Addr} {z : Str} (h : (D, z) ∈ kinds A) : PySem.W.exmOne K (.ref D) (.ref A.c_JoinError) = some true := by
  unfold kinds at h
  simp only [List.mem_cons, Prod.mk.injEq, List.not_mem_nil, or_false] at h
  rcases h with ⟨rfl, rfl⟩ | ⟨rfl, rfl⟩ | ⟨rfl, rfl⟩ | ⟨rfl, rfl⟩ | ⟨rfl, rfl⟩ | ⟨rfl, rfl⟩
  · exact PySem.W.exm_ref T.hb_JoinError T.hd_JoinError T.ht_JoinError T.su_BadSize_JoinError
  · exact PySem.W.exm_ref T.hb_JoinError T.hd_JoinError T.ht_JoinError T.su_BadPoint_JoinError
  · exact PySem.W.exm_ref T.hb_JoinError T.hd_JoinError T.ht_JoinError T.su_Twice_JoinError
  · exact PySem.W.exm_ref T.hb_JoinError T.hd_JoinError T.ht_JoinError T.su_NoTie_JoinError
  · exact PySem.W.exm_ref T.hb_JoinError T.hd_JoinError T.ht_JoinError T.su_TooMany_JoinError
  · exact PySem.W.exm_ref T.hb_JoinError T.hd_JoinError T.ht_JoinError T.su_NoTree_JoinError
end
end Jk

namespace Jk
open PySem L2 Evl
/-- a list of unlike whole numbers below m -/
def Unl (H : Hp) (x : V) (m : Int) : Prop := ∃ (a : Addr) (ns : List Int), x = .ref a ∧ LsI H a ns ∧ ns.Nodup ∧ ∀ n ∈ ns, 0 ≤ n ∧ n < m
structure Lst1 (H : Hp) (x : V) : Prop where
  th : Thing H x
  it : ∀ (a : Addr) (xs : List V), x = .ref a → H a = some (.lst xs) → xs.length ≤ 100 ∧ ∀ y ∈ xs, Thing H y
def spUnlike : Sp := fun vs H Q _ => ∃ (x : V) (m : Int), vs = [x, .int m] ∧ Lst1 H x ∧ (Unl H x m → Q (.bl true) H) ∧ (¬ Unl H x m → Q (.bl false) H)
section
variable {P : Program} {w : World} {K : PySem.W.Frag} {mg : Str → Option Value} {base : Heap} {A : Adr}
theorem ok_unlike_points (T : Txt K mg A) : FnOk P w K mg base CX0 2 A.a_unlike_points A.d_unlike_points ["points", "many"] spUnlike := by
  refine T.F_unlike_points.ok sc_unlike_points (fun vs H Q E h => ?_) (fun cdv C outer s H vs Q E hr h => ?_)
  · obtain ⟨x, m, rfl, _⟩ := h
    rfl
  · obtain ⟨x, m, rfl, L, k1, k2⟩ := h
    refine ⟨_, (pss_cons (ps_if (pt_not (pt_val (pe_callB call_isJ (by rfl) T.isinstance (by decide +kernel) (pa_cons (pv 0) (pa_cons (pe_bltn (v := .ty "list") (u := .type "list") (by rfl) T.list (by decide +kernel) rfl) pa_nil)))))
    (pss_one (ps_ret pe_bl))
    pss_nil)
  (pss_cons (ps_for PassesOwn.never rfl (pi_list (pv 0)) (pg_name (i := 2) sc_unlike_points.nd rfl (.inl rfl))
    (pss_one (ps_if (pt_not (pt_val (pe_call (ok_whole_within T) (hr.mono (by decide)) rfl T.g_whole_within T.k_whole_within T.b_whole_within .nil pass0 (pa_cons (pv 2) (pa_cons pe_int (pa_cons (pe_op op_sub (pv 1) pe_int) pa_nil))))))
        (pss_one (ps_ret pe_bl))
        pss_nil)))
  (pss_one (ps_ret (pe_cmpR op_eq (pe_lenSetJ rfl (by rfl) T.len (by rfl) T.set (pv 0)) (pe_callB call_lenJ (by rfl) T.len (by decide +kernel) (pa_cons (pv 0) pa_nil)) (nomark _)))))), ?_⟩
    have key : ∀ {t : String}, tyN H x = some t → ¬ t = "list" → kitB t "list" = some false → ¬ Unl H x m := fun {t} ht hn _ hu => by
      obtain ⟨a, ns, rfl, h, _⟩ := hu
      rw [tyN_lst h] at ht
      cases ht
      exact hn rfl
    by_cases hx : ∃ (a : Addr) (xs : List V), x = .ref a ∧ H a = some (.lst xs)
    · obtain ⟨a, xs, rfl, ha⟩ := hx
      obtain ⟨hlen, hth⟩ := L.it a xs rfl ha
      simp [L2.start, and_assoc, tyN_lst ha]
      refine ⟨_, rfl, a, rfl, ⟨_, .inl (.inl ha)⟩, for_list (xs := xs) (fun i σ H' => ∃ b : Option V, σ = [some (.ref a), some (.int m), b] ∧ H' = H ∧ ∀ (j : Nat) (y : V), j < i → xs[j]? = some y → inR y 0 (m - 1) = true) ⟨none, rfl, rfl, fun j y h => absurd h (Nat.not_lt_zero _)⟩ (fun i σ H' _ h => ?_) (fun i y σ H' hy h => ?_) (fun σ H' h => ?_)⟩
      · obtain ⟨b, _, rfl, _⟩ := h
        exact .inl (.inl ha)
      · obtain ⟨b, rfl, rfl, hall⟩ := h
        have ty := hth y (List.mem_of_getElem? hy)
        simp [spWhole, and_assoc, ty]
        cases hr : inR y 0 (m - 1) with
        | false =>
          refine .inl ⟨rfl, k2 fun hu => ?_⟩
          obtain ⟨a', ns, e, hl, _, hb⟩ := hu
          cases e
          unfold LsI at hl
          rw [ha] at hl
          have e : xs = ns.map V.int := HO.lst.inj (Option.some.inj hl)
          rw [e, List.getElem?_map] at hy
          cases hn : ns[i]? with
          | none => rw [hn] at hy; cases hy
          | some z =>
            rw [hn] at hy
            cases hy
            have := hb z (List.mem_of_getElem? hn)
            simp [inR] at hr
            omega
        | true =>
          refine .inr ⟨rfl, fun j z hj hz => ?_⟩
          by_cases h : j < i
          · exact hall j z h hz
          · have : j = i := by omega
            subst this
            rw [hy] at hz
            cases hz
            exact hr
      · obtain ⟨b, rfl, rfl, hall⟩ := h
        have hns : ∃ ns : List Int, xs = ns.map V.int ∧ ∀ n ∈ ns, 0 ≤ n ∧ n < m := by
          have gen : ∀ l : List V, (∀ y ∈ l, inR y 0 (m - 1) = true) → ∃ ns : List Int, l = ns.map V.int ∧ ∀ n ∈ ns, 0 ≤ n ∧ n < m := by
            intro l
            induction l with
            | nil => exact fun _ => ⟨[], rfl, fun n h => nomatch h⟩
            | cons y l ih =>
              intro h
              obtain ⟨ns, e, hb⟩ := ih fun z hz => h z (by simp [hz])
              have h1 := h y (by simp)
              cases y with
              | int n =>
                simp [inR] at h1
                exact ⟨n :: ns, by rw [e]; rfl, fun k hk => by
                  rcases List.mem_cons.mp hk with rfl | hk
                  · omega
                  · exact hb k hk⟩
              | _ => cases h1
          refine gen xs fun y hy => ?_
          obtain ⟨j, hj, e⟩ := List.mem_iff_getElem.mp hy
          exact hall j y hj (by rw [List.getElem?_eq_getElem hj, e])
        obtain ⟨ns, rfl, hb⟩ := hns
        have hl : LsI H' a ns := ha
        simp [and_assoc, lsI_ex hl, ha]
        rw [List.length_map] at hlen
        refine ⟨by omega, fun k hk => ?_⟩
        by_cases hn : ns.Nodup
        · have : k = ns.length := hk.mpr hn
          simpa [this] using k1 ⟨a, ns, rfl, hl, hn, hb⟩
        · have : ¬ (k : Int) = (ns.length : Int) := fun e => hn (hk.mp (by omega))
          simpa [this] using k2 fun ⟨a', ms, e, g, gn, _⟩ => by
            cases e
            rw [hl.uniq g] at gn
            exact hn gn
    · have no : ¬ Unl H x m := fun ⟨a, ns, e, h, _⟩ => hx ⟨a, _, e, h⟩
      cases L.th with
      | non => simpa [L2.start, and_assoc] using k2 no
      | bl b => simpa [L2.start, and_assoc] using k2 no
      | int i => simpa [L2.start, and_assoc] using k2 no
      | str s => simpa [L2.start, and_assoc] using k2 no
      | lst h => exact absurd ⟨_, _, rfl, h⟩ hx
      | tup h => simpa [L2.start, and_assoc, tyN_tup h] using k2 no
      | dK h => simpa [L2.start, and_assoc, tyN_dK h] using k2 no
end
end Jk

namespace Jk
open PySem L2 Evl
theorem ex_but {H0 H H' : Hp} {M : List Addr} (e : Ex H0 H) (b : But M H H') (n : ∀ m ∈ M, H0 m = none) : Ex H0 H' := fun x o h => b.kp x o (e x o h) fun z => by rw [n x z] at h; cases h
theorem WebAt.dAt {C : Addr} {H : Hp} {p l : Addr} {ds : List Addr} {rows : List (List Int)} (W : WebAt C H p l ds rows) {d : Addr} (h : d ∈ ds) : ∃ kv, H d = some (.dK kv) := by
  obtain ⟨i, hi, ei⟩ := List.mem_iff_getElem.mp h
  obtain ⟨d', c1, c2, _⟩ := W.at (i := i) (by rw [← W.len]; exact hi)
  rw [List.getElem?_eq_getElem hi, ei] at c1
  cases c1
  exact ⟨_, c2⟩
/-- what is no dict with keys for ints and texts stays when the web's own dicts change -/
theorem WebAt.kp {C : Addr} {H H' : Hp} {p l : Addr} {ds : List Addr} {rows : List (List Int)} (W : WebAt C H p l ds rows) (b : But ds H H') {a : Addr} {o : HO} (h : H a = some o) (no : ∀ kv, o ≠ .dK kv) : H' a = some o :=
  b.kp _ _ h fun z => by
    obtain ⟨kv, e⟩ := W.dAt z
    rw [h] at e
    exact no kv (Option.some.inj e)
theorem WebAt.kpT {C : Addr} {H H' : Hp} {p l : Addr} {ds : List Addr} {rows : List (List Int)} (W : WebAt C H p l ds rows) (b : But ds H H') {ts : List Addr} {prs : List (Int × Int)} (h : TupsAt H ts prs) : TupsAt H' ts prs := h.map fun t o e => W.kp b e (by simp)
theorem pairs_nd (n : Nat) : (pairsL n).Nodup := (pairs_sorted n).imp lexLt_ne
theorem pairs_few {n : Nat} (h : n ≤ 30) : (pairsL n).length ≤ 900 := by
  have z2 := rows_len n n
  have z3 : n * n ≤ 30 * 30 := Nat.mul_le_mul h h
  have z5 : (pairsL n).length ≤ n * n := z2
  omega
structure Step (f : Int × Int → Bool) (k m : Nat) (rows : List (List Int)) : Prop where
  G : Good rows
  R : Rel rows k (((pairsL k).take m).filter f)
theorem Step.len {f : Int × Int → Bool} {k m : Nat} {rows : List (List Int)} (S : Step f k m rows) : rows.length = k := by have := S.R.n; omega
theorem step_init {f : Int × Int → Bool} {k : Nat} (h1 : 1 ≤ k) (h2 : k ≤ 30) : Step f k 0 (List.replicate k []) := ⟨good_init h1 h2, by simpa using rel_init⟩
theorem Step.ok {f : Int × Int → Bool} {k m i j : Nat} {rows : List (List Int)} (S : Step f k m rows) (hp : (pairsL k)[m]? = some ((i : Int), (j : Int))) :
    okTwo rows (.int i) (.int j) = true ∧ tied rows i j = false := by
  have hl := S.len
  obtain ⟨a, b, e, hab, hb⟩ := pairs_in (List.mem_of_getElem? hp)
  have e1 : (i : Int) = a := (Prod.mk.inj e).1
  have e2 : (j : Int) = b := (Prod.mk.inj e).2
  have hij : i < j := by omega
  have hj : j < rows.length := by omega
  refine ⟨?_, ?_⟩
  · unfold okTwo
    rw [okPt_of (by omega) (by simp; omega), okPt_of (by omega) (by simp; omega)]
    simp; omega
  · cases ht : tied rows i j with
    | false => rfl
    | true =>
      have t := (tied_iff rows i j).mp ht
      have hin := (S.R.tie S.G (by omega : i ≠ j)).mpr t
      have et : tieN i j = ((i : Int), (j : Int)) := by unfold tieN; rw [show min i j = i by omega, show max i j = j by omega]
      rw [et] at hin
      have h2 := (List.mem_filter.mp hin).1
      obtain ⟨q, hq, eq⟩ := List.mem_iff_getElem.mp h2
      rw [List.getElem_take] at eq
      rw [List.length_take] at hq
      obtain ⟨hm, em⟩ := List.getElem?_eq_some_iff.mp hp
      have := List.pairwise_iff_getElem.mp (pairs_nd k) q m (by omega) hm (by omega)
      exact absurd (eq.trans em.symm) this
theorem Step.yes {f : Int × Int → Bool} {k m i j : Nat} {rows : List (List Int)} (S : Step f k m rows) (hp : (pairsL k)[m]? = some ((i : Int), (j : Int))) (hf : f ((i : Int), (j : Int)) = true) : Step f k (m + 1) (putR rows i j) := by
  obtain ⟨h1, h2⟩ := S.ok hp
  have hl := S.len
  obtain ⟨a, b, e, hab, hb⟩ := pairs_in (List.mem_of_getElem? hp)
  have e1 : (i : Int) = a := (Prod.mk.inj e).1
  have e2 : (j : Int) = b := (Prod.mk.inj e).2
  have nt : ¬ tN rows i j := fun z => by rw [(tied_iff rows i j).mpr z] at h2; cases h2
  have et : tieN i j = ((i : Int), (j : Int)) := by unfold tieN; rw [show min i j = i by omega, show max i j = j by omega]
  refine ⟨good_put S.G (by omega) (by omega) (by omega) nt, ?_⟩
  have z := rel_put S.G S.R (show i < rows.length by omega) (show j < rows.length by omega) (by omega) nt
  rw [et] at z
  rw [List.take_add_one, hp, List.filter_append]
  simpa [hf] using z
theorem Step.no {f : Int × Int → Bool} {k m : Nat} {p : Int × Int} {rows : List (List Int)} (S : Step f k m rows) (hp : (pairsL k)[m]? = some p) (hf : f p = false) : Step f k (m + 1) rows := by
  refine ⟨S.G, ?_⟩
  rw [List.take_add_one, hp, List.filter_append]
  simpa [hf] using S.R
/-- a new web whose ties are those of the pairs that f tells -/
def RetWeb (C : Addr) (f : Int × Int → Bool) (k : Nat) (H : Hp) (Q : VK) : Prop := ∀ (p l : Addr) (ds : List Addr) (rows : List (List Int)) (H' : Hp), Ex H H' → WebAt C H' p l ds rows → H p = none → H l = none → (∀ d ∈ ds, H d = none) → Good rows → Rel rows k ((pairsL k).filter f) → Q (.ref p) H'
def atI (ns : List Int) (i : Int) : Int := ns.getD i.toNat 0
def partF (rows : List (List Int)) (ns : List Int) (p : Int × Int) : Bool := tied rows (Jk.atI ns p.1) (Jk.atI ns p.2)
def oppF (rows : List (List Int)) (p : Int × Int) : Bool := !tied rows p.1 p.2
def spPart (A : Adr) : Sp := fun vs H Q E => ∃ (p l : Addr) (ds : List Addr) (rows : List (List Int)) (x : V), vs = [.ref p, x] ∧ WebAt A.c_Web H p l ds rows ∧ Good rows ∧ Lst1 H x ∧
  ((¬ ∃ a ns, x = .ref a ∧ LsI H a ns ∧ ns.Nodup ∧ (∀ n ∈ ns, 0 ≤ n ∧ n < (rows.length : Int)) ∧ ns ≠ []) → E (.ref A.c_BadPoint) none H) ∧
  (∀ a ns, x = .ref a → LsI H a ns → ns.Nodup → (∀ n ∈ ns, 0 ≤ n ∧ n < (rows.length : Int)) → ns ≠ [] → RetWeb A.c_Web (partF rows ns) ns.length H Q)
def spOpp (A : Adr) : Sp := fun vs H Q _ => ∃ (p l : Addr) (ds : List Addr) (rows : List (List Int)), vs = [.ref p] ∧ WebAt A.c_Web H p l ds rows ∧ Good rows ∧ RetWeb A.c_Web (oppF rows) rows.length H Q
section
variable {P : Program} {w : World} {K : PySem.W.Frag} {mg : Str → Option Value} {base : Heap} {A : Adr}
theorem ok_part (T : Txt K mg A) : FnOk P w K mg base (L2.CX P w) 5 A.a_part A.d_part ["web", "points"] (spPart A) := by
  refine T.F_part.okX sc_part (fun vs H Q E h => ?_) (fun cdv C outer s H vs Q E hr h => ?_)
  · obtain ⟨p, l, ds, rows, x, rfl, _⟩ := h
    rfl
  · obtain ⟨p, l, ds, rows, x, rfl, W, G, L, k1, k2⟩ := h
    refine ⟨_, (pss_cons (ps_if (PW.pt (pw_or (pt_not (pt_val (pe_call (ok_unlike_points T) (hr.mono (by decide)) rfl T.g_unlike_points T.k_unlike_points T.b_unlike_points .nil pass0 (pa_cons (pv 1) (pa_cons (pe_meth0 (pv 0) T.cl_Web T.m_Web_many (ok_Web_many T) (hr.mono (by decide)) T.b_Web_many .nil pass0) pa_nil))))) (pw_or1 (pt_cmpR op_eq (pe_callB call_lenJ (by rfl) T.len (by decide +kernel) (pa_cons (pv 1) pa_nil)) pe_int (nomark _)))))
    (pss_one (ps_raise rfl (takes_of rfl rfl rfl rfl) (pmk_own PySem.F.excBase_ValueError T.xBadPoint T.gBadPoint T.kBadPoint (raises_own T.bBadPoint T.tBadPoint) rfl)))
    pss_nil)
  (pss_cons (ps_set (i := 2) sc_part.nd rfl (Or.inl rfl) (pe_make T.mk_Web (ok_Web_init T) (hr.mono (by decide)) rfl T.gWeb T.b_Web_init .nil (passes_call (E := E) (takes_of rfl rfl rfl rfl) fun _ _ _ _ z => z) (pa_cons (pe_callB call_lenJ (by rfl) T.len (by decide +kernel) (pa_cons (pv 1) pa_nil)) pa_nil)))
  (pss_cons (ps_for (passes_of rfl) rfl (pi_list (pe_call (ok_pairs T) (hr.mono (by decide)) rfl T.g_pairs T.k_pairs T.b_pairs .nil pass0 (pa_cons (pe_callB call_lenJ (by rfl) T.len (by decide +kernel) (pa_cons (pv 1) pa_nil)) pa_nil))) (pg_tupJ (n := 2) rfl (pgs_cons (pg_name (i := 3) sc_part.nd rfl (.inl rfl)) (pgs_cons (pg_name (i := 4) sc_part.nd rfl (.inl rfl)) pgs_nil)))
    (pss_one (ps_if (pt_val (pe_meth (pv 0) T.cl_Web T.m_Web_has (ok_Web_has T) (hr.mono (by decide)) T.b_Web_has .nil (passes_call (E := E) (takes_of rfl rfl rfl rfl) fun _ _ _ _ z => z) (pa_cons (pe_ix ix_listJ (pv 1) (pv 3) (fun _ _ => rfl)) (pa_cons (pe_ix ix_listJ (pv 1) (pv 4) (fun _ _ => rfl)) pa_nil))))
        (pss_one (ps_expr (pe_meth (pv 2) T.cl_Web T.m_Web_put (ok_Web_put T) (hr.mono (by decide)) T.b_Web_put .nil (passes_call (E := E) (takes_of rfl rfl rfl rfl) fun _ _ _ _ z => z) (pa_cons (pv 3) (pa_cons (pv 4) pa_nil)))))
        pss_nil)))
  (pss_one (ps_ret (pv 2)))))), ?_⟩
    obtain ⟨dx, w1⟩ := W.ob
    simp [L2.start, and_assoc, w1, spMany, web_ex W, spUnlike, L]
    refine ⟨fun hu => ?_, fun hu => k1 fun ⟨a, ns, e, h1, h2, h3, _⟩ => hu ⟨a, ns, e, h1, h2, h3⟩⟩
    obtain ⟨a, ns, rfl, h1, h2, h3⟩ := hu
    have hlen := nd_len h2 h3
    have few := G.few
    have h1' : H a = some (.lst (ns.map V.int)) := h1
    simp [h1']
    by_cases hne : ns = []
    · subst hne
      refine .inr ⟨rfl, k1 fun ⟨a', ms, e, g, _, _, g2⟩ => ?_⟩
      cases e
      exact g2 (h1.uniq g)
    · have hpos : 1 ≤ ns.length := by cases ns with | nil => exact absurd rfl hne | cons _ _ => simp
      refine .inl ⟨hne, fun p' dx' n1 n2 n3 => ?_⟩
      refine ⟨p', dx', _, rfl, upd_same, .int _, fun z => ?_, fun z l' ds' H1 W1 b1 nl nds => ⟨rfl, ?_⟩⟩
      · have zz : ¬ ((1 : Int) ≤ ns.length ∧ (ns.length : Int) ≤ 30) := by simpa [inR] using z
        omega
      have eX : Ex H (upd (upd H dx' (.own p')) p' (.ins A.c_Web dx' [])) := fun b o e => by
        rw [upd_ne (ne_of_none e n1), upd_ne (ne_of_none e n2)]; exact e
      have e01 : Ex H H1 := fun b o e => b1.kp b o (eX b o e) (by simpa using ne_of_none e n1)
      have e1n : (iOf (.int (ns.length : Int))).toNat = ns.length := by simp [iOf]
      rw [e1n] at W1
      have ha1 := e01 _ _ h1'
      let f := partF rows ns
      have nX : ∀ x, (upd (upd H dx' (.own p')) p' (.ins A.c_Web dx' [])) x = none → H x = none := fun x z => fresh_back eX z
      refine ⟨_, rfl, a, _, rfl, ha1, ns.length, by simp, by omega, fun ts q H2 hq e12 hql hts => ⟨q, rfl, ⟨_, .inl (.inl hql)⟩, ?_⟩⟩
      have e02 := e01.trans e12
      refine for_list (xs := ts.map V.ref) (fun m σ H' => ∃ (b3 b4 : Option V) (rows' : List (List Int)), σ = [some (.ref p), some (.ref a), some (.ref p'), b3, b4] ∧ Ex H H' ∧ H' q = some (.lst (ts.map V.ref)) ∧ TupsAt H' ts (pairsL ns.length) ∧ WebAt A.c_Web H' p' l' ds' rows' ∧ Step f ns.length m rows') ⟨none, none, _, rfl, e02, hql, hts, W1.up e12, step_init hpos (by omega)⟩ (fun m σ H' _ h => ?_) (fun m x σ H' hx h => ?_) (fun σ H' h => ?_)
      · obtain ⟨_, _, _, _, _, h, _⟩ := h
        exact .inl (.inl h)
      · obtain ⟨b3, b4, rows', rfl, e, hq', ht', W', S⟩ := h
        rw [List.getElem?_map] at hx
        cases ht0 : ts[m]? with
        | none => rw [ht0] at hx; cases hx
        | some t =>
          rw [ht0] at hx
          cases hx
          have hm : m < ts.length := (List.getElem?_eq_some_iff.mp ht0).1
          have hm' : m < (pairsL ns.length).length := by rw [← ht'.1]; exact hm
          have hp0 : (pairsL ns.length)[m]? = some (pairsL ns.length)[m] := List.getElem?_eq_getElem hm'
          obtain ⟨i, j, hp, hij, hj⟩ := pairs_in (List.mem_of_getElem? hp0)
          have htup := ht'.2 m t _ ht0 hp0
          rw [hp] at htup hp0
          have Wh := W.up e
          obtain ⟨dxh, wh⟩ := Wh.ob
          obtain ⟨dxp, wp⟩ := W'.ob
          have gi : (ns.map V.int)[i]? = some (.int (Jk.atI ns i)) := by
            have hi : i < ns.length := by omega
            rw [List.getElem?_map, List.getElem?_eq_getElem hi]
            simp [Jk.atI, List.getD_eq_getElem?_getD, hi]
          have gj : (ns.map V.int)[j]? = some (.int (Jk.atI ns j)) := by
            rw [List.getElem?_map, List.getElem?_eq_getElem hj]
            simp [Jk.atI, List.getD_eq_getElem?_getD, hj]
          have ri := h3 _ (show Jk.atI ns i ∈ ns by rw [List.getElem?_map] at gi; cases z : ns[i]? with
            | none => rw [z] at gi; cases gi
            | some y => rw [z] at gi; cases gi; exact List.mem_of_getElem? z)
          have rj := h3 _ (show Jk.atI ns j ∈ ns by rw [List.getElem?_map] at gj; cases z : ns[j]? with
            | none => rw [z] at gj; cases gj
            | some y => rw [z] at gj; cases gj; exact List.mem_of_getElem? z)
          have nij : Jk.atI ns i ≠ Jk.atI ns j := by
            have hi : i < ns.length := by omega
            have := List.pairwise_iff_getElem.mp h2 i j hi hj hij
            simpa [Jk.atI, List.getD_eq_getElem?_getD, hi, hj] using this
          have ok2 : okTwo rows (.int (Jk.atI ns i)) (.int (Jk.atI ns j)) = true := by
            unfold okTwo
            rw [okPt_of ri.1 (by omega), okPt_of rj.1 (by omega)]
            simp [nij]
          obtain ⟨s1, s2⟩ := S.ok hp0
          have sm : ∀ r ∈ rows', r.length ≤ 100 := fun r hr => by have := S.G.small r hr; omega
          simp [and_assoc, htup, wh, wp, e _ _ h1', spHas, web_ex Wh, gi, gj, ok2, iOf, spPut, web_ex W', S.G.sy, s1, s2]
          refine ⟨.int _, .int _, ?_⟩
          cases hf : tied rows (Jk.atI ns i) (Jk.atI ns j) with
          | false => exact .inl ⟨rfl, e, hq', ht', rows', W', S.no hp0 hf⟩
          | true => exact .inr ⟨rfl, .int _, .int _, sm, fun H3 W3 b3 => ⟨ex_but e b3 fun d hd => nX _ (nds d hd), W'.kp b3 hq' (by simp), W'.kpT b3 ht', _, W3, S.yes hp0 hf⟩⟩
      · obtain ⟨b3, b4, rows', rfl, e, hq', ht', W', S⟩ := h
        have R := S.R
        rw [List.length_map, ht'.1, List.take_length] at R
        exact ⟨_, rfl, k2 a ns rfl h1 h2 h3 hne p' l' ds' rows' H' e W' n1 (nX _ nl) (fun d hd => nX _ (nds d hd)) S.G R⟩
end
end Jk

namespace Jk
open PySem L2 Evl
theorem erase_map {α β : Type} (f : α → β) : ∀ (l : List α) (i : Nat), (l.map f).eraseIdx i = (l.eraseIdx i).map f
  | [], i => by simp
  | a :: l, 0 => rfl
  | a :: l, i + 1 => by
    show f a :: (l.map f).eraseIdx i = f a :: (l.eraseIdx i).map f
    rw [erase_map f l i]
def rngI (n : Nat) : List Int := (List.range n).map fun (i : Nat) => (i : Int)
theorem rng_nd (n : Nat) : (rngI n).Nodup := by
  unfold rngI List.Nodup
  rw [List.pairwise_map]
  exact List.pairwise_lt_range.imp fun h => by omega
theorem rng_in {n : Nat} {z : Int} : z ∈ rngI n ↔ 0 ≤ z ∧ z < n := by
  unfold rngI
  rw [List.mem_map]
  constructor
  · rintro ⟨i, hi, rfl⟩
    have := List.mem_range.mp hi
    omega
  · intro h
    exact ⟨z.toNat, List.mem_range.mpr (by omega), by omega⟩
def spOrder : Sp := fun vs H Q _ => ∃ (n : Nat) (c : Int), vs = [.int n, .int c] ∧ n ≤ 1000 ∧ ∀ ns q H', ns.Perm (rngI n) → H q = none → Ex H H' → LsI H' q ns → Q (.ref q) H'
noncomputable def depV (H : Hp) (v : V) : Nat := open Classical in if h : ∃ u, ToldAt H v u then h.choose.dep else 0
theorem depV_at {H : Hp} {v : V} {u : Tr} (h : ToldAt H v u) : depV H v = u.dep := by
  have e : ∃ u, ToldAt H v u := ⟨u, h⟩
  unfold depV
  rw [dif_pos e, told_uniq _ _ v e.choose_spec h]
def spLeast : Sp := fun vs H Q _ => ∃ (v : V) (t : Tr), vs = [v] ∧ ToldAt H v t ∧ t.form ∧ Q (.int t.least) H
section
variable {P : Program} {w : World} {K : PySem.W.Frag} {mg : Str → Option Value} {base : Heap} {A : Adr}
theorem ok_l_least (T : Txt K mg A) : FnOk P w K mg base CX0 1 A.a_l_least A.d_l_least ["_law_told"] spLeast := by
  refine T.F_l_least.ok sc_l_least (fun vs H Q E h => ?_) (fun cdv C outer s H vs Q E hr h => ?_)
  · obtain ⟨v, t, rfl, _⟩ := h
    rfl
  · obtain ⟨v, t, rfl, hv, hf, k⟩ := h
    refine ⟨_, (pss_cons (ps_while PassesOwn.never (pt_val (pe_callB call_isJ (by rfl) T.isinstance (by decide +kernel) (pa_cons (pv 0) (pa_cons (pe_bltn (v := .ty "tuple") (u := .type "tuple") (by rfl) T.tuple (by decide +kernel) rfl) pa_nil))))
    (pss_one (ps_set (i := 0) sc_l_least.nd rfl (Or.inl rfl) (pe_ix ix_tupJ (pe_ix ix_tupJ (pv 0) pe_int (fun _ _ => rfl)) pe_int (fun _ _ => rfl)))))
  (pss_one (ps_ret (pv 0)))), ?_⟩
    refine while_by (fun σ H' => H' = H ∧ ∃ v u, σ = [some v] ∧ ToldAt H v u ∧ u.form ∧ u.least = t.least) (fun σ H' => match σ with | [some v] => depV H v | _ => 0) ⟨rfl, v, t, rfl, hv, hf, rfl⟩ (fun σ H' h => ?_) (fun σ H1 Q1 Q2 m h => ?_)
    rotate_left
    · simp only [j_B, j_cb, j_cons, j_var, j_c, j_nil, j_is] at h ⊢
      obtain ⟨v, h1, t, b, h2, h3, c, e, q⟩ := h
      exact ⟨v, h1, t, b, h2, h3, c, e, m _ _ q⟩
    obtain ⟨rfl, v, u, rfl, h1, h2, h3⟩ := h
    cases u with
    | pt n =>
      have e : v = .int n := by rw [ToldAt] at h1; exact h1
      subst e
      have e3 : n = t.least := by rw [← h3]; rw [Tr.least]
      simp
      rw [e3]; exact k
    | nd j ts =>
      have hd := depV_at h1
      rw [ToldAt] at h1
      obtain ⟨a, b, vs, rfl, g1, g2, g3⟩ := h1
      rw [Tr.form] at h2
      cases ts with
      | nil => simp at h2
      | cons t0 us =>
        cases vs with
        | nil => simp [ToldL] at g3
        | cons v0 vs =>
          rw [ToldL] at g3
          have f0 := (formL_iff.mp h2.2.2 t0 (by simp)).1
          simp [tyN_tup g1, g1, g2]
          refine ⟨⟨t0, g3.1, f0, ?_⟩, ?_⟩
          · rw [← h3]; rw [Tr.least, leastL]
          · rw [hd, depV_at g3.1]
            rw [Tr.dep, depL]
            omega
end
end Jk

namespace Jk
open PySem L2 Evl
theorem sql_up {K : PySem.W.Frag} {H H' : Hp} {a : Addr} {xs : List V} (h : SqL K H a xs) (e : Ex H H') : SqL K H' a xs := by
  rcases h with (h | ⟨o, h⟩) | h
  · exact .inl (.inl (e _ _ h))
  · exact .inl (.inr ⟨o, e _ _ h⟩)
  · exact .inr h
end Jk

namespace Jk
open PySem L2 Evl
/-- a list's own place is not changed by what is new -/
theorem LsI.cat {H : Hp} {l b : Addr} {xs ys : List Int} (h : LsI H l xs) (g : LsI H b ys) {Q : VK} (hb : xs.length + ys.length ≤ 100000) (k : ∀ p H2, H p = none → Ex H H2 → LsI H2 p (xs ++ ys) → Q (.ref p) H2) : jCat (.ref l) (.ref b) H Q := by
  rw [j_cat]
  exact ⟨_, h, _, g, by simpa using hb, fun p H2 n e h2 => k p H2 n e (by unfold LsI; rw [h2, List.map_append])⟩
def spPts (d : Nat) : Sp := fun vs H Q _ => ∃ (v : V) (t : Tr), vs = [v] ∧ ToldAt H v t ∧ t.dep < d ∧ t.pts.length ≤ 1000 ∧ ∀ q H', H q = none → Ex H H' → LsI H' q t.pts → Q (.ref q) H'
theorem told_kind {H : Hp} {v : V} {t : Tr} (h : ToldAt H v t) : (∃ n, t = .pt n ∧ v = .int n) ∨ ∃ j ts a b vs, t = .nd j ts ∧ v = .ref a ∧ H a = some (.tup [.str (wdS j), .ref b]) ∧ H b = some (.tup vs) ∧ ToldL H vs ts := by
  cases t with
  | pt n => rw [ToldAt] at h; exact .inl ⟨n, rfl, h⟩
  | nd j ts =>
    rw [ToldAt] at h
    obtain ⟨a, b, vs, e, h1, h2, h3⟩ := h
    exact .inr ⟨j, ts, a, b, vs, rfl, e, h1, h2, h3⟩
theorem pts_take (ts : List Tr) (i : Nat) : (ptsL (ts.take i)).length ≤ (ptsL ts).length := by
  have z : ptsL ts = ptsL (ts.take i) ++ ptsL (ts.drop i) := by rw [← ptsL_app, List.take_append_drop]
  rw [z, List.length_append]; omega
theorem pts_step {ts : List Tr} {i : Nat} {u : Tr} (h : ts[i]? = some u) : ptsL (ts.take (i + 1)) = ptsL (ts.take i) ++ u.pts := by rw [take_one h, ptsL_app, ptsL, ptsL, List.append_nil]
section
variable {P : Program} {w : World} {K : PySem.W.Frag} {mg : Str → Option Value} {base : Heap} {A : Adr}
theorem none_spPts {f : Addr} {fd : FuncData} {ps : List Str} {k : Nat} : FnOk P w K mg base CX0 k f fd ps (spPts 0) :=
  ⟨fun vs H Q E ⟨_, _, _, _, h, _⟩ => absurd h (Nat.not_lt_zero _), fun A outer s H args us vs Q E _ _ _ _ ⟨_, _, _, _, h, _⟩ => absurd h (Nat.not_lt_zero _)⟩
theorem step_l_points (T : Txt K mg A) {d : Nat} (ih : FnOk P w K mg base CX0 (d + 1) A.a_l_points A.d_l_points ["_law_told"] (spPts d)) : FnOk P w K mg base CX0 (d + 2) A.a_l_points A.d_l_points ["_law_told"] (spPts (d + 1)) := by
  refine T.F_l_points.ok sc_l_points (fun vs H Q E h => ?_) (fun cdv C outer s H vs Q E hr h => ?_)
  · obtain ⟨v, t, rfl, _⟩ := h
    rfl
  · obtain ⟨v, t, rfl, hv, hd, few, k⟩ := h
    refine ⟨_, (pss_cons (ps_if (pt_not (pt_val (pe_callB call_isJ (by rfl) T.isinstance (by decide +kernel) (pa_cons (pv 0) (pa_cons (pe_bltn (v := .ty "tuple") (u := .type "tuple") (by rfl) T.tuple (by decide +kernel) rfl) pa_nil)))))
    (pss_one (ps_ret (pe_lstJ (pa_cons (pv 0) pa_nil))))
    pss_nil)
  (pss_cons (ps_set (i := 1) sc_l_points.nd rfl (Or.inl rfl) (pe_lstJ pa_nil))
  (pss_cons (ps_for PassesOwn.never rfl (pi_tup (pe_ix ix_tupJ (pv 0) pe_int (fun _ _ => rfl))) (pg_name (i := 2) sc_l_points.nd rfl (.inl rfl))
    (pss_one (ps_set (i := 1) sc_l_points.nd rfl (Or.inl rfl) (pe_op op_catJ (pv 1) (pe_call ih (hr.mono (by omega)) rfl T.g_l_points T.k_l_points T.b_l_points .nil pass0 (pa_cons (pv 2) pa_nil))))))
  (pss_one (ps_ret (pv 1)))))), ?_⟩
    rcases told_kind hv with ⟨n, rfl, rfl⟩ | ⟨j, ts, a, b, vs, rfl, rfl, h1, h2, h3⟩
    · simp [L2.start]
      intro q H1 n1 e1 h1
      exact k q H1 n1 e1 (by rw [Tr.pts]; exact h1)
    · simp [L2.start, and_assoc, tyN_tup h1]
      intro D H1 n1 e1 hD
      rw [Tr.pts] at few k
      rw [Tr.dep] at hd
      refine ⟨_, rfl, a, _, 1, _, rfl, rfl, e1 _ _ h1, by decide, rfl, b, rfl, ⟨_, .inl (.inl (e1 _ _ h2))⟩, for_tup (xs := vs) (fun i σ H2 => ∃ (D2 : Addr) (b2 : Option V), σ = [some (.ref a), some (.ref D2), b2] ∧ Ex H1 H2 ∧ H D2 = none ∧ LsI H2 D2 (ptsL (ts.take i))) ⟨D, none, rfl, Ex.refl _, n1, by unfold LsI; simpa [ptsL] using hD⟩ (fun i σ H2 _ h => ?_) (fun i x σ H2 hx h => ?_) (fun σ H2 h => ?_)⟩
      · obtain ⟨D2, b2, rfl, e, _⟩ := h
        exact .inl (.inl ((e1.trans e) _ _ h2))
      · obtain ⟨D2, b2, rfl, e, nD, hL⟩ := h
        obtain ⟨u, hu, hat⟩ := h3.get hx
        have pstep := pts_step hu
        have l1 := pts_take ts (i + 1)
        rw [pstep, List.length_append] at l1
        have e02 := e1.trans e
        simp
        refine ⟨x, u, rfl, hat.up e02, by have := depL_le (List.mem_of_getElem? hu); omega, by omega, fun q H3 n3 e3 h3' => ?_⟩
        refine LsI.cat (hL.up e3) h3' (by omega) fun p H4 n4 e4 h4 => ⟨p, rfl, ?_⟩
        have e14 := e.trans (e3.trans e4)
        exact ⟨e14, fresh_back (e02.trans e3) n4, by rw [pstep]; exact h4⟩
      · obtain ⟨D2, b2, rfl, e, nD, hL⟩ := h
        rw [List.take_of_length_le (by rw [h3.len]; exact Nat.le_refl _)] at hL
        exact ⟨_, rfl, k D2 H2 nD (e1.trans e) hL⟩
theorem ok_l_points (T : Txt K mg A) : ∀ d : Nat, FnOk P w K mg base CX0 (d + 1) A.a_l_points A.d_l_points ["_law_told"] (spPts d)
  | 0 => none_spPts
  | d + 1 => step_l_points T (ok_l_points T d)
end
end Jk

namespace Jk
open PySem L2 Evl
theorem LsP.cat {H : Hp} {l b : Addr} {xs ys : List (Int × Int)} (h : LsP H l xs) (g : LsP H b ys) {Q : VK} (hb : xs.length + ys.length ≤ 100000) (k : ∀ p H2, H p = none → Ex H H2 → LsP H2 p (xs ++ ys) → Q (.ref p) H2) : jCat (.ref l) (.ref b) H Q := by
  obtain ⟨ts, h1, h2⟩ := h
  obtain ⟨us, g1, g2⟩ := g
  rw [j_cat]
  exact ⟨_, h1, _, g1, by simp [h2.1, g2.1]; omega, fun p H2 n e z => k p H2 n e ⟨ts ++ us, by rw [z, List.map_append], (h2.up e).app (g2.up e)⟩⟩
theorem ite_min (a b : Int) : (if b < a then b else a) = min a b := by split <;> omega
theorem ite_max (a b : Int) : (if b > a then b else a) = max a b := by split <;> omega
theorem sq_le {a b : Nat} (h : a ≤ b) (hb : b ≤ 100) : a * a ≤ 10000 := Nat.le_trans (Nat.mul_le_mul (Nat.le_trans h hb) (Nat.le_trans h hb)) (by decide)
theorem wd_join (j : Bool) : (wdS j = ("join" : Str)) ↔ j = true := by cases j <;> simp [wdS] <;> decide +kernel
theorem ties_take (j : Bool) (ts : List Tr) (i : Nat) : (trTies j [] (ts.take i)).length ≤ (ptsL ts).length * (ptsL ts).length := by
  have := trTies_len j [] (ts.take i)
  have z := pts_take ts i
  simp at this
  exact Nat.le_trans this (Nat.mul_le_mul z z)
def spTiesT (d : Nat) : Sp := fun vs H Q _ => ∃ (v : V) (t : Tr), vs = [v] ∧ ToldAt H v t ∧ t.dep < d ∧ t.pts.length ≤ 100 ∧ ∀ q H', H q = none → Ex H H' → LsP H' q t.ties → Q (.ref q) H'
section
variable {P : Program} {w : World} {K : PySem.W.Frag} {mg : Str → Option Value} {base : Heap} {A : Adr}
theorem none_spTiesT {f : Addr} {fd : FuncData} {ps : List Str} {k : Nat} : FnOk P w K mg base CX0 k f fd ps (spTiesT 0) :=
  ⟨fun vs H Q E ⟨_, _, _, _, h, _⟩ => absurd h (Nat.not_lt_zero _), fun A outer s H args us vs Q E _ _ _ _ ⟨_, _, _, _, h, _⟩ => absurd h (Nat.not_lt_zero _)⟩
theorem step_l_ties (T : Txt K mg A) {d : Nat} (ih : FnOk P w K mg base CX0 (d + 2) A.a_l_ties A.d_l_ties ["_law_told"] (spTiesT d)) : FnOk P w K mg base CX0 (d + 3) A.a_l_ties A.d_l_ties ["_law_told"] (spTiesT (d + 1)) := by
  refine T.F_l_ties.ok sc_l_ties (fun vs H Q E h => ?_) (fun cdv C outer s H vs Q E hr h => ?_)
  · obtain ⟨v, t, rfl, _⟩ := h
    rfl
  · obtain ⟨v, t, rfl, hv, hd, few, k⟩ := h
    refine ⟨_, (pss_cons (ps_if (pt_not (pt_val (pe_callB call_isJ (by rfl) T.isinstance (by decide +kernel) (pa_cons (pv 0) (pa_cons (pe_bltn (v := .ty "tuple") (u := .type "tuple") (by rfl) T.tuple (by decide +kernel) rfl) pa_nil)))))
    (pss_one (ps_ret (pe_lstJ pa_nil)))
    pss_nil)
  (pss_cons (ps_set (i := 1) sc_l_ties.nd rfl (Or.inl rfl) (pe_lstJ pa_nil))
  (pss_cons (ps_set (i := 2) sc_l_ties.nd rfl (Or.inl rfl) (pe_lstJ pa_nil))
  (pss_cons (ps_for PassesOwn.never rfl (pi_tup (pe_ix ix_tupJ (pv 0) pe_int (fun _ _ => rfl))) (pg_name (i := 3) sc_l_ties.nd rfl (.inl rfl))
    (pss_cons (ps_set (i := 1) sc_l_ties.nd rfl (Or.inl rfl) (pe_op op_catJ (pv 1) (pe_call ih (hr.mono (by omega)) rfl T.g_l_ties T.k_l_ties T.b_l_ties .nil pass0 (pa_cons (pv 3) pa_nil))))
      (pss_cons (ps_set (i := 4) sc_l_ties.nd rfl (Or.inl rfl) (pe_call (ok_l_points T d) (hr.mono (by omega)) rfl T.g_l_points T.k_l_points T.b_l_points .nil pass0 (pa_cons (pv 3) pa_nil)))
      (pss_cons (ps_if (pt_cmpR op_eq (pe_ix ix_tupJ (pv 0) pe_int (fun _ _ => rfl)) pe_str (nomark _))
        (pss_one (ps_for PassesOwn.never rfl (pi_list (pv 2)) (pg_name (i := 5) sc_l_ties.nd rfl (.inr rfl))
            (pss_one (ps_set (i := 1) sc_l_ties.nd rfl (Or.inl rfl) (pe_op op_catJ (pv 1) (pe_lc (own := [("_law_other", 6)]) rfl sc_l_ties.nd (pi_list (pv 4)) (blkOk_by (own := [("_law_other", 6)]) (N := ["_law_told", "_law_found", "_law_ahead", "_law_piece", "_law_points_here", "_law_one", "_law_other"]) (sc := defScope s_l_ties) (by decide +kernel)) (fun _ _ _ _ _ => by exact (pg_name (i := 6) sc_l_ties.nd rfl (Or.inl rfl))) (fun _ _ _ _ _ => by exact pts_nil) (fun _ _ _ _ _ => by exact (pe_tupJ (pa_cons (pe_callB (call_min2 rfl) (by rfl) T.min (by decide +kernel) (pa_cons (pv 5) (pa_cons (pv 6) pa_nil))) (pa_cons (pe_callB (call_max2 rfl) (by rfl) T.max (by decide +kernel) (pa_cons (pv 5) (pa_cons (pv 6) pa_nil))) pa_nil))))))))))
        pss_nil)
      (pss_one (ps_set (i := 2) sc_l_ties.nd rfl (Or.inl rfl) (pe_op op_catJ (pv 2) (pv 4))))))))
  (pss_one (ps_ret (pv 1))))))), ?_⟩
    rcases told_kind hv with ⟨n, rfl, rfl⟩ | ⟨j, ts, a, b, vs, rfl, rfl, h1, h2, h3⟩
    · simp [L2.start]
      intro q H1 n1 e1 h1
      exact k q H1 n1 e1 ⟨[], h1, TupsAt.nil _⟩
    · simp [L2.start, and_assoc, tyN_tup h1]
      intro F0 H0 n0 e0 hF0 D H1 n1 e1 hD
      rw [Tr.pts] at few
      rw [Tr.dep] at hd
      have e01 := e0.trans e1
      refine ⟨_, rfl, a, _, 1, _, rfl, rfl, e01 _ _ h1, by decide, rfl, b, rfl, ⟨_, .inl (.inl (e01 _ _ h2))⟩, for_tup (xs := vs) (fun i σ H2 => ∃ (F2 D2 : Addr) (b3 b4 b5 b6 : Option V), σ = [some (.ref a), some (.ref F2), some (.ref D2), b3, b4, b5, b6] ∧ Ex H H2 ∧ H F2 = none ∧ LsP H2 F2 (trTies j [] (ts.take i)) ∧ LsI H2 D2 (ptsL (ts.take i))) ⟨F0, D, none, none, none, none, rfl, e01, n0, ⟨[], e1 _ _ hF0, TupsAt.nil _⟩, by unfold LsI; simpa [ptsL] using hD⟩ (fun i σ H2 _ h => ?_) (fun i x σ H2 hx h => ?_) (fun σ H2 h => ?_)⟩
      · obtain ⟨F2, D2, b3, b4, b5, b6, rfl, e, _⟩ := h
        exact .inl (.inl (e _ _ h2))
      · obtain ⟨F2, D2, b3, b4, b5, b6, rfl, e, nF, hF, hL⟩ := h
        obtain ⟨u, hu, hat⟩ := h3.get hx
        have pstep := pts_step hu
        have l1 := pts_take ts (i + 1)
        rw [pstep, List.length_append] at l1
        have tl0 := ties_take j ts i
        have tl1 := ties_take j ts (i + 1)
        have tstep : trTies j [] (ts.take (i + 1)) = trTies j [] (ts.take i) ++ (u.ties ++ if j = true then crossL (ptsL (ts.take i)) u.pts else []) := by rw [take_one hu, trTies_snoc]
        have sq := sq_le (Nat.le_refl _) few
        rw [tstep, List.length_append, List.length_append] at tl1
        simp
        refine ⟨x, u, rfl, hat.up e, by have := depL_le (List.mem_of_getElem? hu); omega, by omega, fun q H3 n3 e3 h3' => ?_⟩
        refine LsP.cat (hF.up e3) h3' (by omega) fun F4 H4 n4 e4 hF4 => ?_
        have e24 := e3.trans e4
        have eH4 := e.trans e24
        refine ⟨x, u, rfl, (hat.up eH4), by have := depL_le (List.mem_of_getElem? hu); omega, by omega, fun P5 H5 n5 e5 hP5 => ?_⟩
        have eH5 := eH4.trans e5
        have nF4 : H F4 = none := fresh_back (e.trans e3) n4
        have hL5 := hL.up (e24.trans e5)
        have hF5 := hF4.up e5
        simp [and_assoc, eH5 _ _ h1, wd_join]
        obtain ⟨hL5', hP5'⟩ : H5 D2 = some (.lst ((ptsL (ts.take i)).map V.int)) ∧ H5 P5 = some (.lst (u.pts.map V.int)) := ⟨hL5, hP5⟩
        cases j with
        | false =>
          refine .inl ⟨rfl, _, hL5', _, hP5', by simp; omega, fun p H6 n6 e6 h6 => ⟨eH5.trans e6, nF4, ?_, ?_⟩⟩
          · rw [tstep]
            simpa using hF5.up e6
          · unfold LsI
            rw [h6, pstep, List.map_append]
        | true =>
          have csl := cross_len (ptsL (ts.take i)) u.pts
          simp only [if_true] at tl1 tstep
          refine .inr ⟨rfl, _, rfl, D2, rfl, ⟨_, .inl (.inl hL5')⟩, for_list (xs := (ptsL (ts.take i)).map V.int) (fun m σ H6 => ∃ (F6 : Addr) (b5 b6 : Option V), σ = [some (.ref a), some (.ref F6), some (.ref D2), some x, some (.ref P5), b5, b6] ∧ Ex H5 H6 ∧ H F6 = none ∧ LsP H6 F6 (trTies true [] (ts.take i) ++ u.ties ++ crossL ((ptsL (ts.take i)).take m) u.pts)) ⟨F4, b5, b6, rfl, Ex.refl _, nF4, by simpa [crossL] using hF5⟩ (fun m σ H6 _ h => ?_) (fun m y σ H6 hy h => ?_) (fun σ H6 h => ?_)⟩
          · obtain ⟨F6, b5, b6, rfl, e6, _⟩ := h
            exact .inl (.inl (e6 _ _ hL5'))
          · obtain ⟨F6, b5, b6, rfl, e6, nF6, hF6⟩ := h
            rw [List.getElem?_map] at hy
            cases hone : (ptsL (ts.take i))[m]? with
            | none => rw [hone] at hy; cases hy
            | some one =>
              rw [hone] at hy
              cases hy
              have cstep : crossL ((ptsL (ts.take i)).take (m + 1)) u.pts = crossL ((ptsL (ts.take i)).take m) u.pts ++ u.pts.map fun z => mmI one z := by
                rw [take_one hone]
                simp [crossL]
              have cl : (crossL ((ptsL (ts.take i)).take (m + 1)) u.pts).length ≤ (crossL (ptsL (ts.take i)) u.pts).length := by
                rw [cross_len, cross_len]
                exact Nat.mul_le_mul (by rw [List.length_take]; omega) (Nat.le_refl _)
              rw [cstep, List.length_append, List.length_map] at cl
              simp
              refine ⟨_, rfl, P5, rfl, ⟨_, .inl (.inl (e6 _ _ hP5'))⟩, fun L nL => lc_listS (xs := u.pts.map V.int) (fun q y H => ∃ t, y = .ref t ∧ H t = some (.tup [.int (mmI one (u.pts.getD q 0)).1, .int (mmI one (u.pts.getD q 0)).2])) stay_pair nL (.inl (.inl (e6 _ _ hP5'))) (by simp; omega) (fun q y H7 N hy e7 hL7 hN => ?_) (fun acc H8 e8 h8 hacc hall => ?_)⟩
              · rw [List.getElem?_map] at hy
                cases hz : u.pts[q]? with
                | none => rw [hz] at hy; cases hy
                | some z =>
                  rw [hz] at hy
                  cases hy
                  simp [wipe, ite_min, ite_max]
                  refine ⟨one, z, ⟨rfl, rfl⟩, one, z, ⟨rfl, rfl⟩, fun p H9 n9 e9 h9 => ?_⟩
                  refine hN _ _ e9 ⟨p, rfl, ?_⟩
                  rw [h9]
                  simp [mmI, hz]
              · have lp : LsP H8 L (u.pts.map fun z => mmI one z) := lsP_of h8 (by simpa using hacc) fun q y hq => by
                  obtain ⟨t, e1, e2⟩ := hall q y hq
                  have hq' : q < u.pts.length := by have := lt_of_get hq; simp at hacc; omega
                  refine ⟨t, e1, mmI one u.pts[q], by rw [List.getElem?_map, List.getElem?_eq_getElem hq']; rfl, ?_⟩
                  rw [e2]
                  simp [List.getElem?_eq_getElem hq']
                refine LsP.cat (hF6.up e8) lp (by simp; omega) fun p H9 n9 e9 h9 => ?_
                simp
                refine ⟨e6.trans (e8.trans e9), fresh_back (eH5.trans (e6.trans e8)) n9, ?_⟩
                rw [cstep]
                simpa using h9
          · obtain ⟨F6, b5, b6, rfl, e6, nF6, hF6⟩ := h
            rw [List.length_map, List.take_length] at hF6
            simp
            refine ⟨_, e6 _ _ hL5', _, e6 _ _ hP5', by simp; omega, fun p H7 n7 e7 h7 => ⟨F6, p, ⟨rfl, rfl⟩, (eH5.trans e6).trans e7, nF6, ?_, ?_⟩⟩
            · rw [tstep, ← List.append_assoc]
              exact hF6.up e7
            · unfold LsI
              rw [h7, pstep, List.map_append]
      · obtain ⟨F2, D2, b3, b4, b5, b6, rfl, e, nF, hF, hL⟩ := h
        rw [List.take_of_length_le (by rw [h3.len]; exact Nat.le_refl _)] at hF
        exact ⟨_, rfl, k F2 H2 nF e (by rw [Tr.ties]; exact hF)⟩
theorem ok_l_ties (T : Txt K mg A) : ∀ d : Nat, FnOk P w K mg base CX0 (d + 2) A.a_l_ties A.d_l_ties ["_law_told"] (spTiesT d)
  | 0 => none_spTiesT
  | d + 1 => step_l_ties T (ok_l_ties T d)
end
end Jk

namespace Jk
open PySem L2 Evl
/-! ## what is near each point, and what hangs together -/
structure NearAt (H : Hp) (q : Addr) (nr : List (List Int)) : Prop where
  ex : ∃ ds : List Addr, H q = some (.lst (ds.map V.ref)) ∧ ds.length = nr.length ∧ ∀ (i : Nat) (d : Addr) (r : List Int), ds[i]? = some d → nr[i]? = some r → H d = some (.dK (rowD r))
theorem NearAt.up {H H' : Hp} {q : Addr} {nr : List (List Int)} (h : NearAt H q nr) (e : Ex H H') : NearAt H' q nr := by
  obtain ⟨ds, h1, h2, h3⟩ := h.ex
  exact ⟨ds, e _ _ h1, h2, fun i d r x y => e _ _ (h3 i d r x y)⟩
theorem NearAt.get {H : Hp} {q : Addr} {nr : List (List Int)} (h : NearAt H q nr) {x : Int} (h0 : 0 ≤ x) (h1 : x < nr.length) : ∃ (xs : List V) (d : Addr), H q = some (.lst xs) ∧ xs[x.toNat]? = some (.ref d) ∧ H d = some (.dK (rowD (nr.getD x.toNat []))) := by
  obtain ⟨ds, g1, g2, g3⟩ := h.ex
  have lt : x.toNat < ds.length := by omega
  have lt2 : x.toNat < nr.length := by omega
  exact ⟨_, ds[x.toNat], g1, by rw [List.getElem?_map, List.getElem?_eq_getElem lt]; rfl, by rw [List.getD_eq_getElem?_getD, List.getElem?_eq_getElem lt2]; exact g3 _ _ _ (List.getElem?_eq_getElem lt) (List.getElem?_eq_getElem lt2)⟩
def lenD (H : Hp) (a : Addr) : Nat := match H a with | some (.dK k) => k.length | _ => 0
def lenL (H : Hp) (a : Addr) : Nat := match H a with | some (.lst k) => k.length | _ => 0
theorem lenD_at {H : Hp} {a : Addr} {k : List (Key × V)} (h : H a = some (.dK k)) : lenD H a = k.length := by unfold lenD; rw [h]
theorem lenL_at {H : Hp} {a : Addr} {k : List V} (h : H a = some (.lst k)) : lenL H a = k.length := by unfold lenL; rw [h]
/-- the points met so far, and those that are to be looked at -/
structure Met (R : Int → Int → Bool) (j : Bool) (P : List Int) (a : Int) (ms fs : List Int) : Prop where
  nd : ms.Nodup
  here : a ∈ ms
  rch : ∀ x ∈ ms, x ∈ P ∧ Rch R j P a x
  sub : ∀ x ∈ fs, x ∈ ms
  cl : ∀ x ∈ ms, x ∉ fs → ∀ y ∈ P, R x y = j → y ∈ ms
/-- .. while p is looked at, up to the i-th -/
structure MetP (R : Int → Int → Bool) (j : Bool) (P : List Int) (a p : Int) (i : Nat) (ms fs : List Int) : Prop where
  nd : ms.Nodup
  here : a ∈ ms
  pm : p ∈ ms
  rch : ∀ x ∈ ms, x ∈ P ∧ Rch R j P a x
  sub : ∀ x ∈ fs, x ∈ ms
  cl : ∀ x ∈ ms, x ≠ p → x ∉ fs → ∀ y ∈ P, R x y = j → y ∈ ms
  done : ∀ y ∈ P.take i, R p y = j → y ∈ ms
section
variable {R : Int → Int → Bool} {j : Bool} {P : List Int} {a p : Int} {ms fs : List Int}
theorem Met.start (h : a ∈ P) : Met R j P a [a] [a] := ⟨by simp, by simp, fun x hx => by simp at hx; subst hx; exact ⟨h, .here⟩, fun x hx => hx, fun x hx nx => absurd hx nx⟩
theorem Met.pop (m : Met R j P a ms (fs ++ [p])) : MetP R j P a p 0 ms fs :=
  ⟨m.nd, m.here, m.sub p (by simp), m.rch, fun x hx => m.sub x (by simp [hx]), fun x hx ne nf y hy r => m.cl x hx (by simp [nf, ne]) y hy r, fun y hy => by simp at hy⟩
theorem MetP.no {i : Nat} {y : Int} (m : MetP R j P a p i ms fs) (hy : P[i]? = some y) (h : y ∈ ms ∨ R p y ≠ j) : MetP R j P a p (i + 1) ms fs :=
  ⟨m.nd, m.here, m.pm, m.rch, m.sub, m.cl, fun z hz r => by
    rw [take_one hy] at hz
    rcases List.mem_append.mp hz with w | w
    · exact m.done z w r
    · simp at w
      subst w
      exact h.elim id fun n => absurd r n⟩
theorem MetP.yes {i : Nat} {y : Int} (m : MetP R j P a p i ms fs) (hy : P[i]? = some y) (h1 : y ∉ ms) (h2 : R p y = j) : MetP R j P a p (i + 1) (ms ++ [y]) (fs ++ [y]) :=
  ⟨nd_snoc m.nd h1, by simp [m.here], by simp [m.pm], fun x hx => by
    rcases List.mem_append.mp hx with w | w
    · exact m.rch x w
    · simp at w
      subst w
      exact ⟨List.mem_of_getElem? hy, .step (m.rch p m.pm).2 (List.mem_of_getElem? hy) h2⟩, fun x hx => by
    rcases List.mem_append.mp hx with w | w
    · exact List.mem_append_left _ (m.sub x w)
    · exact List.mem_append_right _ w, fun x hx ne nf z hz r => by
    rcases List.mem_append.mp hx with w | w
    · exact List.mem_append_left _ (m.cl x w ne (fun q => nf (List.mem_append_left _ q)) z hz r)
    · exact absurd (List.mem_append_right _ w) nf, fun z hz r => by
    rw [take_one hy] at hz
    rcases List.mem_append.mp hz with w | w
    · exact List.mem_append_left _ (m.done z w r)
    · exact List.mem_append_right _ w⟩
theorem MetP.fin (m : MetP R j P a p P.length ms fs) : Met R j P a ms fs :=
  ⟨m.nd, m.here, m.rch, m.sub, fun x hx nf y hy r => by
    by_cases e : x = p
    · subst e
      exact m.done y (by rw [List.take_length]; exact hy) r
    · exact m.cl x hx e nf y hy r⟩
theorem Met.end (m : Met R j P a ms []) (inc : P.Pairwise (· < ·)) : srt ms = grp R j P a :=
  lt_uniq (srt_lt m.nd) (inc.sublist grp_sub) fun x => by
    rw [srt_mem]
    exact grp_uniq m.here m.rch (fun x hx y hy r => m.cl x hx (by simp) y hy r) x
theorem Met.few (m : Met R j P a ms fs) : ms.length ≤ P.length := sub_len m.nd fun x hx => (m.rch x hx).1
theorem MetP.few {i : Nat} (m : MetP R j P a p i ms fs) : ms.length ≤ P.length := sub_len m.nd fun x hx => (m.rch x hx).1
end
theorem near_in {H : Hp} {nr : List (List Int)} {x y : Int} : (valV (rowD (nr.getD x.toNat [])) (Sum.inl y)).isSome = tied nr x y := by
  rw [rowD_val]
  unfold tied
  split <;> simp_all
theorem snoc_or {α : Type} (l : List α) : l = [] ∨ ∃ l' x, l = l' ++ [x] := by
  induction l using list_snoc_ind with
  | h0 => exact .inl rfl
  | h1 l a _ => exact .inr ⟨l, a, rfl⟩
theorem ex_upd {H H' : Hp} {p : Addr} {o : HO} (e : Ex H H') (n : H p = none) : Ex H (upd H' p o) := fun x u h => by
  rw [upd_ne (ne_of_none h n)]; exact e x u h
theorem j_dnot {ty td : TE} {σ : L2.St} {H : Hp} {Q : VK} : tDNotIn ty td σ H Q = ty σ H fun y H1 => td σ H1 fun x H2 => ∃ a o, x = .ref a ∧ DGet H2 a y o ∧ Q (.bl (!o.isSome)) H2 := rfl
def spGroupOf : Sp := fun vs H Q _ => ∃ (q pl : Addr) (j : Bool) (nr : List (List Int)) (P : List Int), vs = [.ref q, .ref pl, .bl j] ∧ NearAt H q nr ∧ LsI H pl P ∧ P ≠ [] ∧ P.Pairwise (· < ·) ∧ (∀ x ∈ P, 0 ≤ x ∧ x < nr.length) ∧ P.length ≤ 30 ∧
  ∀ g H', H g = none → Ex H H' → LsI H' g (grp (tied nr) j P (P.headD 0)) → Q (.ref g) H'
section
variable {P : Program} {w : World} {K : PySem.W.Frag} {mg : Str → Option Value} {base : Heap} {A : Adr}
theorem ok_group_of (T : Txt K mg A) : FnOk P w K mg base CX0 1 A.a_group_of A.d_group_of ["near", "points", "tied"] spGroupOf := by
  refine T.F_group_of.ok sc_group_of (fun vs H Q E h => ?_) (fun cdv C outer s H vs Q E hr h => ?_)
  · obtain ⟨q, pl, j, nr, P, rfl, _⟩ := h
    rfl
  · obtain ⟨q, pl, j, nr, P, rfl, hq, hp, ne, inc, inr, few, k⟩ := h
    have hu := hu_of hr
    refine ⟨_, (pss_cons (ps_set (i := 3) sc_group_of.nd rfl (Or.inl rfl) (pe_disp (pps_cons (pe_ix ix_listJ (pv 1) pe_int (fun _ _ => rfl)) pe_bl (pps_nil)) (by rfl) (by rfl) (fun z => by cases z) (by decide)))
  (pss_cons (ps_set (i := 4) sc_group_of.nd rfl (Or.inl rfl) (pe_lstJ (pa_cons (pe_ix ix_listJ (pv 1) pe_int (fun _ _ => rfl)) pa_nil)))
  (pss_cons (ps_while PassesOwn.never (pt_truth (pv 4) (by intro _; rfl))
    (pss_cons (ps_set (i := 5) sc_group_of.nd rfl (Or.inl rfl) (pe_bmL0 PySem.F.slot_list_pop PySem.F.type_list_pop mt_pop (pv 4)))
      (pss_one (ps_for PassesOwn.never rfl (pi_list (pv 1)) (pg_name (i := 6) sc_group_of.nd rfl (.inl rfl))
        (pss_one (ps_if (PW.pt (pw_and (pt_cmp (pc_dnotin (by exact hu) (pv 6) (pv 3))) (pw_and1 (pt_cmpR op_eq (pe_cmp (pc_dinJ (by exact hu) (pv 6) (pe_ix ix_listJ (pv 0) (pv 5) (fun _ _ => rfl))) rfl) (pv 2) (nomark _)))))
            (pss_cons (ps_dputJ (by exact hu) (pv 3) (pv 6) pe_bl rfl)
              (pss_one (ps_expr (pe_bmL PySem.F.slot_list_append PySem.F.type_list_append mt_append (pv 4) (pa_cons (pv 6) pa_nil)))))
            pss_nil))))))
  (pss_one (ps_ret (pe_callB (call_sortedDJ rfl) (by rfl) T.sorted (by decide +kernel) (pa_cons (pv 3) pa_nil))))))), ?_⟩
    obtain ⟨a, l, rfl⟩ := List.exists_cons_of_ne_nil ne
    have hp' : H pl = some (.lst ((a :: l).map V.int)) := hp
    refine seq_by (fun σ1 H1 => ∃ M : Addr, σ1 = [some (.ref q), some (.ref pl), some (.bl j), some (.ref M), none, none, none] ∧ Ex H H1 ∧ H M = none ∧ H1 M = some (.dK (rowD [a]))) (fun N hN => ?_) (fun s1 H1 m => ?_)
    · simp [L2.start, and_assoc, hp']
      intro p np
      simp [tPairs, and_assoc]
      have npl : pl ≠ p := ne_of_none hp' np
      rw [upd_ne npl]
      refine ⟨_, hp', .int a, rfl, ?_⟩
      · refine ⟨upd_same, [(Sum.inl a, .bl true)], rfl, by simp, hN _ _ ⟨p, rfl, fun x o e => ?_, np, ?_⟩⟩
        · have : x ≠ p := ne_of_none e np
          rw [upd_ne this, upd_ne this]; exact e
        · exact upd_same
    obtain ⟨M, rfl, e1, nM, hM⟩ := m
    refine seq_by (fun σ1 H2 => ∃ F : Addr, σ1 = [some (.ref q), some (.ref pl), some (.bl j), some (.ref M), some (.ref F), none, none] ∧ Ex H1 H2 ∧ H1 F = none ∧ LsI H2 F [a]) (fun N hN => ?_) (fun s1 H2 m => ?_)
    · simp [and_assoc, e1 _ _ hp']
      intro F H2 nF e2 hF
      exact hN _ _ ⟨F, rfl, e2, nF, hF⟩
    obtain ⟨F, rfl, e2, nF, hF⟩ := m
    have nM0 : H M = none := nM
    have nF0 : H F = none := fresh_back e1 nF
    have fM : M ≠ F := ne_of_none hM nF
    refine seq_by (fun σ1 H3 => ∃ (b5 b6 : Option V) (ms : List Int), σ1 = [some (.ref q), some (.ref pl), some (.bl j), some (.ref M), some (.ref F), b5, b6] ∧ Ex H H3 ∧ H3 M = some (.dK (rowD ms)) ∧ Met (tied nr) j (a :: l) a ms []) (fun N hN => ?_) (fun s1 H3 m => ?_)
    · refine while_by (fun σ' H' => ∃ (b5 b6 : Option V) (ms fs : List Int), σ' = [some (.ref q), some (.ref pl), some (.bl j), some (.ref M), some (.ref F), b5, b6] ∧ Ex H H' ∧ H' M = some (.dK (rowD ms)) ∧ LsI H' F fs ∧ Met (tied nr) j (a :: l) a ms fs ∧ 2 * (l.length + 1 - ms.length) + fs.length ≤ 2 * (l.length + 1)) (fun σ' H' => 2 * ((a :: l).length - lenD H' M) + lenL H' F) ⟨none, none, [a], [a], rfl, e1.trans e2, e2 _ _ hM, hF, Met.start (by simp), by simp; omega⟩ (fun σ' H' h => ?_) (fun σ H Q Q' m h => ?_)
      rotate_left
      · obtain ⟨v, h1, k, h2, h3⟩ := h
        exact ⟨v, h1, k, h2, m _ _ h3⟩
      obtain ⟨b5, b6, ms, fs, rfl, e3, hM3, hF3, mt, mz⟩ := h
      refine ⟨_, rfl, !(fs.map V.int).isEmpty, .inl ⟨_, .inl (.inl hF3), rfl⟩, ?_⟩
      rcases snoc_or fs with rfl | ⟨fs', p, rfl⟩
      · simp
        exact hN _ _ ⟨b5, b6, ms, rfl, e3, hM3, mt⟩
      · simp [and_assoc]
        refine ⟨⟨_, hF3⟩, ⟨_, _, .int p, rfl, rfl, hF3, by simp, ?_⟩⟩
        have ed : ((fs' ++ [p]).map V.int).dropLast = fs'.map V.int := by simp
        rw [ed]
        rw [List.length_append, List.length_singleton] at mz
        have e4 : Ex H (upd H' F (.lst (fs'.map V.int))) := ex_upd e3 nF0
        have mF : M ≠ F := fM
        have lf := lenL_at hF3
        have lm := lenD_at hM3
        simp [rowD] at lf lm
        refine ⟨_, rfl, pl, rfl, ⟨_, .inl (.inl (e4 _ _ hp'))⟩, for_list (xs := (a :: l).map V.int) (fun i σ H3 => ∃ (b6 : Option V) (ms2 fs2 : List Int), σ = [some (.ref q), some (.ref pl), some (.bl j), some (.ref M), some (.ref F), some (.int p), b6] ∧ Ex H H3 ∧ H3 M = some (.dK (rowD ms2)) ∧ LsI H3 F fs2 ∧ MetP (tied nr) j (a :: l) a p i ms2 fs2 ∧ 2 * (l.length + 1 - ms2.length) + fs2.length ≤ 2 * (l.length + 1 - ms.length) + fs'.length) ⟨b6, ms, fs', rfl, e4, by rw [upd_ne mF]; exact hM3, upd_same, mt.pop, Nat.le_refl _⟩ (fun i σ H3 _ h => ?_) (fun i x σ H3 hx h => ?_) (fun σ H3 h => ?_)⟩
        · obtain ⟨_, _, _, rfl, e5, _⟩ := h
          exact .inl (.inl (e5 _ _ hp'))
        · obtain ⟨c6, ms2, fs2, rfl, e5, hM5, hF5, mp, me⟩ := h
          obtain ⟨y, hy, rfl⟩ : ∃ y, (a :: l)[i]? = some y ∧ V.int y = x := by
            rw [List.getElem?_map] at hx
            cases c : (a :: l)[i]? with
            | none => rw [c] at hx; simp at hx
            | some y => rw [c] at hx; exact ⟨y, rfl, by simpa using hx⟩
          have ym : y ∈ a :: l := List.mem_of_getElem? hy
          have pr := mp.rch p mp.pm
          obtain ⟨ws, d, w1, w2, w3⟩ := hq.get (inr p pr.1).1 (inr p pr.1).2
          have fw := mp.few
          simp [j_dnot]
          by_cases c1 : y ∈ ms2
          · exact ⟨_, DGet.k (k := Sum.inl y) hM5, .inl ⟨by rw [rowD_val, if_pos c1]; rfl, e5, ms2, hM5, fs2, hF5, mp.no hy (.inl c1), me⟩⟩
          · refine ⟨_, DGet.k (k := Sum.inl y) hM5, .inr ⟨by rw [rowD_val, if_neg c1], ws, e5 _ _ w1, (inr p pr.1).1, _, w2, d, rfl, _, e5 _ _ w3, ?_⟩⟩
            rw [near_in (H := H)]
            by_cases c2 : tied nr p y = j
            · refine .inr ⟨c2, ?_⟩
              have f2 := (mp.yes hy c1 c2).few
              simp at few fw f2
              have hF6 : upd H3 M (.dK (rowD (ms2 ++ [y]))) F = some (.lst (fs2.map V.int)) := by rw [upd_ne mF.symm]; exact hF5
              refine ⟨_, hM5, by simp [rowD]; omega, ?_⟩
              rw [rowD_put c1]
              refine ⟨⟨_, hF6⟩, _, hF6, by rw [List.length_map]; exact lt_line (by omega), ex_upd (ex_upd e5 nM0) nF0, ms2 ++ [y], by rw [upd_ne mF, upd_same], fs2 ++ [y], by unfold LsI; rw [upd_same, List.map_append]; rfl, mp.yes hy c1 c2, ?_⟩
              rw [List.length_append, List.length_append, List.length_singleton]
              omega
            · exact .inl ⟨c2, e5, ms2, hM5, fs2, hF5, mp.no hy (.inr c2), me⟩
        · obtain ⟨c6, ms2, fs2, rfl, e5, hM5, hF5, mp, me⟩ := h
          have mp' : MetP (tied nr) j (a :: l) a p (a :: l).length ms2 fs2 := by simpa using mp
          have lf2 := lenL_at hF5
          have lm2 := lenD_at hM5
          simp [rowD] at lf2
          simp [rowD] at lm2
          refine ⟨⟨_, _, rfl⟩, e5, ⟨ms2, hM5, fs2, hF5, mp'.fin, by omega⟩, ?_⟩
          rw [lf2, lm2, lf, lm]
          omega
    obtain ⟨b5, b6, ms, rfl, e3, hM3, mt⟩ := m
    have sm := mt.end inc
    have lm := mt.few
    simp
    refine ⟨_, hM3, ms, by simp [rowD, List.map_map, Function.comp_def], by simp at few lm; omega, fun p H4 n4 e4 h4 => k p H4 ?_ (e3.trans e4) ?_⟩
    · exact fresh_back e3 n4
    · rw [sm] at h4; exact h4
end
end Jk

namespace Jk
open PySem L2 Evl

/-! ## the groups -/
theorem grps_len {R : Int → Int → Bool} {j : Bool} : ∀ P : List Int, (grps R j P).length ≤ P.length := grps_ind (C := fun P gs => gs.length ≤ P.length) (Nat.le_refl _) fun a l ih => by
  rw [grps_cons, List.length_cons]
  have := left_lt (R := R) (j := j) a l
  omega
def spGroups : Sp := fun vs H Q _ => ∃ (q pl : Addr) (j : Bool) (nr : List (List Int)) (P : List Int), vs = [.ref q, .ref pl, .bl j] ∧ NearAt H q nr ∧ LsI H pl P ∧ P.Pairwise (· < ·) ∧ (∀ x ∈ P, 0 ≤ x ∧ x < nr.length) ∧ P.length ≤ 30 ∧
  ∀ g as H', H g = none → Ex H H' → LsLL H' g (grps (tied nr) j P) as → Q (.ref g) H'
section
variable {P : Program} {w : World} {K : PySem.W.Frag} {mg : Str → Option Value} {base : Heap} {A : Adr}
def leftLen (σ : L2.St) (H : Hp) : Nat := match σ with | [_, _, _, _, some (.ref l), _, _] => lenL H l | _ => 0
theorem ok_groups (T : Txt K mg A) : FnOk P w K mg base CX0 2 A.a_groups A.d_groups ["near", "points", "tied"] spGroups := by
  refine T.F_groups.ok sc_groups (fun vs H Q E h => ?_) (fun cdv C outer s H vs Q E hr h => ?_)
  · obtain ⟨q, pl, j, nr, P, rfl, _⟩ := h
    rfl
  · obtain ⟨q, pl, j, nr, P, rfl, hq, hp, inc, inr, few, k⟩ := h
    refine ⟨_, (pss_cons (ps_set (i := 3) sc_groups.nd rfl (Or.inl rfl) (pe_lstJ pa_nil))
  (pss_cons (ps_set (i := 4) sc_groups.nd rfl (Or.inl rfl) (pv 1))
  (pss_cons (ps_while PassesOwn.never (pt_truth (pv 4) (by intro _; rfl))
    (pss_cons (ps_set (i := 5) sc_groups.nd rfl (Or.inr rfl) (pe_call (ok_group_of T) (hr.mono (by decide)) rfl T.g_group_of T.k_group_of T.b_group_of .nil pass0 (pa_cons (pv 0) (pa_cons (pv 4) (pa_cons (pv 2) pa_nil)))))
      (pss_cons (ps_setLc (i := 4) (own := [("point", 6)]) rfl sc_groups.nd rfl rfl (sw_true rfl rfl rfl (by decide +kernel)) (pi_list (pv 4)) (blkOk_by (own := [("point", 6)]) (N := ["near", "points", "tied", "groups", "left", "group", "point"]) (sc := defScope s_groups) (by decide +kernel)) (fun _ _ _ _ _ => by exact (pg_name (i := 6) sc_groups.nd rfl (Or.inl rfl))) (fun _ _ _ _ _ => by exact (pts_one (pt_cmpR op_notInI (pv 6) (pv 5) (by rfl)))) (fun _ _ _ _ _ => by exact (pv 6)))
      (pss_one (ps_expr (pe_bmL PySem.F.slot_list_append PySem.F.type_list_append mt_append (pv 3) (pa_cons (pv 5) pa_nil)))))))
  (pss_one (ps_ret (pv 3)))))), ?_⟩
    simp [L2.start, and_assoc, -Bool.exists_bool]
    intro G H1 nG e1 hG
    have pG : pl ≠ G := ne_of_none hp nG
    refine while_by (fun σ' H' => ∃ (lp : Addr) (b5 b6 : Option V) (gs : List (List Int)) (as : List Addr) (L : List Int), σ' = [some (.ref q), some (.ref pl), some (.bl j), some (.ref G), some (.ref lp), b5, b6] ∧ Ex H H' ∧ LsLL H' G gs as ∧ (∀ a ∈ as, a ≠ G) ∧ LsI H' lp L ∧ lp ≠ G ∧ L.Sublist P ∧ gs ++ grps (tied nr) j L = grps (tied nr) j P) leftLen ⟨pl, none, none, [], [], P, rfl, e1, ⟨hG, rfl, fun i a ls x => by simp at x⟩, by simp, e1 _ _ hp, pG, List.Sublist.refl _, rfl⟩ (fun σ' H' h => ?_) (fun σ H Q Q' m h => ?_)
    rotate_left
    · obtain ⟨v, h1, k, h2, h3⟩ := h
      exact ⟨v, h1, k, h2, m _ _ h3⟩
    obtain ⟨lp, b5, b6, gs, as, L, rfl, e2, hG2, aG, hL, lG, sub, eq⟩ := h
    refine ⟨_, rfl, !(L.map V.int).isEmpty, .inl ⟨_, .inl (.inl hL), rfl⟩, ?_⟩
    cases L with
    | nil =>
      simp
      rw [grps_nil, List.append_nil] at eq
      rw [eq] at hG2
      exact k G as H' nG e2 hG2
    | cons a l =>
      simp [and_assoc]
      have inL : ∀ x ∈ a :: l, x ∈ P := sub.subset
      refine ⟨q, lp, j, nr, a :: l, rfl, hq.up e2, hL, by simp, inc.sublist sub, fun x hx => inr x (inL x hx), Nat.le_trans sub.length_le few, fun g H3 ng e3 hg => ?_⟩
      simp
      refine ⟨_, rfl, lp, rfl, ⟨_, .inl (.inl (e3 _ _ hL))⟩, fun D hD => lc_intsF (a :: l) (fun x => !decide (x ∈ grp (tied nr) j (a :: l) a)) hD (.inl (.inl (e3 _ _ hL))) (by have := sub.length_le; omega) (fun i n H4 hn e => ?_) (fun x σ H Q Q' m q => m _ _ q) (fun H4 e4 h4 => ?_)⟩
      · simp [wipe]
        intro N hN
        refine ⟨_, e _ _ hg, ?_⟩
        have := hN H4 (Ex.refl _)
        by_cases c : n ∈ grp (tied nr) j (a :: l) a
        · rw [decide_eq_true c] at this; exact .inl ⟨c, this⟩
        · rw [decide_eq_false c] at this; exact .inr ⟨c, this⟩
      · have fe : (a :: l).filter (fun x => !decide (x ∈ grp (tied nr) j (a :: l) a)) = (a :: l).filter fun x => decide (x ∉ grp (tied nr) j (a :: l) a) := List.filter_congr fun x _ => by simp
        rw [fe] at h4
        have lt := left_lt (R := tied nr) (j := j) a l
        have lg := grps_len (R := tied nr) (j := j) P
        rw [← eq, List.length_append] at lg
        have e5 : Ex H' H4 := e3.trans e4
        have hG5 := hG2.up e5
        have hg5 : LsI H4 g (grp (tied nr) j (a :: l) a) := e4 _ _ hg
        have gG : g ≠ G := (ne_of_none hG2.at' ng).symm
        have DG : D ≠ G := (ne_of_none (e3 _ _ hG2.at') hD).symm
        have sn := hG5.snoc hg5 gG aG
        refine ⟨⟨_, hG5.at'⟩, _, hG5.at', by rw [List.length_map, hG5.len]; exact lt_line (by omega), ⟨D, rfl, ex_upd (e2.trans e5) nG, _, _, sn, fun x hx => ?_, (a :: l).filter fun x => decide (x ∉ grp (tied nr) j (a :: l) a), ?_, DG, ?_, ?_⟩, ?_⟩
        · rcases List.mem_append.mp hx with z | z
          · exact aG x z
          · simp at z; rw [z]; exact gG
        · unfold LsI; rw [upd_ne DG]; exact h4
        · exact List.filter_sublist.trans sub
        · rw [← eq, grps_cons, List.append_assoc]
          simp
        · show lenL _ D < lenL H' lp
          rw [lenL_at hL, lenL, upd_ne DG, h4, List.length_map]
          simp only [List.length_map]
          exact lt
end
end Jk

namespace Jk
open PySem L2 Evl

/-! ## the tree of the points, told -/
def spToldF (d : Nat) : Sp := fun vs H Q _ => ∃ (q pl : Addr) (nr : List (List Int)) (P : List Int) (R : Int → Int → Bool), vs = [.ref q, .ref pl] ∧ NearAt H q nr ∧ LsI H pl P ∧ P ≠ [] ∧ P.Pairwise (· < ·) ∧ (∀ x ∈ P, 0 ≤ x ∧ x < nr.length) ∧ P.length ≤ 30 ∧ P.length ≤ d ∧
  (∀ a b, R a b = R b a) ∧ NoRow R P ∧ (∀ a ∈ P, ∀ b ∈ P, tied nr a b = R a b) ∧ ∀ v H', Ex H H' → ToldAt H' v (treeF R d P) → Q v H'
section
variable {P : Program} {w : World} {K : PySem.W.Frag} {mg : Str → Option Value} {base : Heap} {A : Adr}
theorem none_spToldF {f : Addr} {fd : FuncData} {ps : List Str} {k : Nat} : FnOk P w K mg base CX0 k f fd ps (spToldF 0) :=
  ⟨fun vs H Q E ⟨_, _, _, _, _, _, _, _, ne, _, _, _, h, _⟩ => absurd (List.length_eq_zero_iff.mp (Nat.le_zero.mp h)) ne, fun A outer s H args us vs Q E _ _ _ _ ⟨_, _, _, _, _, _, _, _, ne, _, _, _, h, _⟩ => absurd (List.length_eq_zero_iff.mp (Nat.le_zero.mp h)) ne⟩
theorem step_told_of (T : Txt K mg A) {d : Nat} (ih : FnOk P w K mg base CX0 (d + 2) A.a_told_of A.d_told_of ["near", "points"] (spToldF d)) : FnOk P w K mg base CX0 (d + 3) A.a_told_of A.d_told_of ["near", "points"] (spToldF (d + 1)) := by
  refine T.F_told_of.ok sc_told_of (fun vs H Q E h => ?_) (fun cdv C outer s H vs Q E hr h => ?_)
  · obtain ⟨q, pl, nr, P, R, rfl, _⟩ := h
    rfl
  · obtain ⟨q, pl, nr, P, R, rfl, hq, hp, ne, inc, inr, few, hd, sym, no, ag, k⟩ := h
    have hu := hu_of hr
    refine ⟨_, (pss_cons (ps_if (pt_cmpR op_eq (pe_callB call_lenJ (by rfl) T.len (by decide +kernel) (pa_cons (pv 1) pa_nil)) pe_int (nomark _))
    (pss_one (ps_ret (pe_ix ix_listJ (pv 1) pe_int (fun _ _ => rfl))))
    pss_nil)
  (pss_cons (ps_set (i := 2) sc_told_of.nd rfl (Or.inl rfl) (pe_glob (v := .str "side") rfl T.cSIDE.choose_spec ⟨_, rfl⟩))
  (pss_cons (ps_set (i := 3) sc_told_of.nd rfl (Or.inl rfl) (pe_call (ok_groups T) (hr.mono (by omega)) rfl T.g_groups T.k_groups T.b_groups .nil pass0 (pa_cons (pv 0) (pa_cons (pv 1) (pa_cons pe_bl pa_nil)))))
  (pss_cons (ps_if (pt_cmpR op_eq (pe_callB call_lenJ (by rfl) T.len (by decide +kernel) (pa_cons (pv 3) pa_nil)) pe_int (nomark _))
    (pss_cons (ps_set (i := 2) sc_told_of.nd rfl (Or.inl rfl) (pe_glob (v := .str "join") rfl T.cJOIN.choose_spec ⟨_, rfl⟩))
      (pss_one (ps_set (i := 3) sc_told_of.nd rfl (Or.inl rfl) (pe_call (ok_groups T) (hr.mono (by omega)) rfl T.g_groups T.k_groups T.b_groups .nil pass0 (pa_cons (pv 0) (pa_cons (pv 1) (pa_cons pe_bl pa_nil)))))))
    pss_nil)
  (pss_one (ps_ret (pe_tupJ (pa_cons (pv 2) (pa_cons (pe_callTy call_tupJ (by rfl) T.tuple (by decide +kernel) (pa_cons (pe_lc (own := [("group", 4)]) rfl sc_told_of.nd (pi_list (pv 3)) (blkOk_by (own := [("group", 4)]) (N := ["near", "points", "word", "groups", "group"]) (sc := defScope s_told_of) (by decide +kernel)) (fun _ _ _ _ _ => by exact (pg_name (i := 4) sc_told_of.nd rfl (Or.inl rfl))) (fun _ _ _ _ _ => by exact pts_nil) (fun _ _ _ _ _ => by exact (pe_call ih (hr.mono (by omega)) rfl T.g_told_of T.k_told_of T.b_told_of .nil pass0 (pa_cons (pv 0) (pa_cons (pv 4) pa_nil))))) pa_nil)) pa_nil))))))))), ?_⟩
    have nd := lt_nodup inc
    have hp' : H pl = some (.lst (P.map V.int)) := hp
    by_cases h1 : P.length = 1
    · have tr : treeF R (d + 1) P = .pt (P.headD 0) := by rw [treeF, if_pos h1]
      rw [tr] at k
      match P, h1, hp' with
      | [a], _, hp' =>
        simp [L2.start, and_assoc, hp']
        exact k _ H (Ex.refl _) (by rw [ToldAt]; rfl)
    · have h2 : 2 ≤ P.length := by have := List.length_pos_iff.mpr ne; omega
      have gc : ∀ j, grps (tied nr) j P = grps R j P := fun j => grps_congr P ag
      have few2 : ∀ j, (grps R j P).length ≤ 30 := fun j => Nat.le_trans (grps_len P) few
      refine seq_by (fun σ1 H1 => σ1 = [some (.ref q), some (.ref pl), none, none, none] ∧ H = H1) (fun N hN => ?_) (fun s1 H1 m => ?_)
      · have i1 : (P.length : Int) ≠ 1 := by omega
        simp [L2.start, and_assoc, hp', h1]
        exact .inl ⟨i1, hN _ _ ⟨rfl, rfl⟩⟩
      obtain ⟨rfl, rfl⟩ := m
      refine seq_by (fun σ1 H1 => σ1 = [some (.ref q), some (.ref pl), some (.str (wdS false)), none, none] ∧ H = H1) (fun N hN => ?_) (fun s1 H1 m => ?_)
      · simp
        exact hN _ _ ⟨rfl, rfl⟩
      obtain ⟨rfl, rfl⟩ := m
      refine seq_by (fun σ1 H1 => ∃ (g : Addr) (as : List Addr), σ1 = [some (.ref q), some (.ref pl), some (.str (wdS false)), some (.ref g), none] ∧ Ex H H1 ∧ LsLL H1 g (grps R true P) as) (fun N hN => ?_) (fun s1 H1 m => ?_)
      · simp
        exact ⟨q, pl, true, nr, P, rfl, hq, hp, inc, inr, few, fun g as H2 n2 e2 h2 => hN _ _ ⟨g, as, rfl, e2, by rw [← gc]; exact h2⟩⟩
      obtain ⟨g, as, rfl, e1, hg⟩ := m
      have gat := hg.at'
      have gln := hg.len
      refine seq_by (fun σ1 H2 => ∃ (j : Bool) (g : Addr) (as : List Addr), σ1 = [some (.ref q), some (.ref pl), some (.str (wdS j)), some (.ref g), none] ∧ Ex H H2 ∧ LsLL H2 g (grps R (!j) P) as ∧ 2 ≤ (grps R (!j) P).length ∧ treeF R (d + 1) P = .nd j ((grps R (!j) P).map (treeF R d))) (fun N hN => ?_) (fun s1 H2 m => ?_)
      · by_cases c : (grps R true P).length = 1
        · have tr : treeF R (d + 1) P = .nd true ((grps R false P).map (treeF R d)) := by rw [treeF, if_neg h1, if_pos c]
          have two : 2 ≤ (grps R false P).length := by
            have cn := grps_one sym nd c
            have pos := List.length_pos_iff.mpr (grps_pos (R := R) (j := false) ne)
            by_cases c2 : (grps R false P).length = 1
            · have cf := grps_one sym nd c2
              rcases conn_two sym nd no h2 with z | z
              · exact absurd cn z
              · exact absurd cf z
            · omega
          have gl2 : as.length = 1 := by omega
          simp [and_assoc, gat]
          refine .inr ⟨by omega, q, pl, false, nr, P, rfl, hq.up e1, e1 _ _ hp, inc, inr, few, fun g2 as2 H2 n2 e2 h2 => hN _ _ ⟨true, g2, as2, rfl, e1.trans e2, by rw [← gc]; exact h2, two, tr⟩⟩
        · have tr : treeF R (d + 1) P = .nd false ((grps R true P).map (treeF R d)) := by rw [treeF, if_neg h1, if_neg c]
          have pos := List.length_pos_iff.mpr (grps_pos (R := R) (j := true) ne)
          simp [and_assoc, gat]
          exact .inl ⟨by omega, hN _ _ ⟨false, g, as, rfl, e1, hg, by show 2 ≤ (grps R true P).length; omega, tr⟩⟩
      obtain ⟨j, g, as, rfl, e2, hg, two, tr⟩ := m
      rw [tr] at k
      have sgat := hg.at'
      have sgl := hg.len
      have nd2 := fun j => grps_each (R := R) (j := j) sym P
      have pm := grps_perm (R := R) (j := !j) P nd
      simp [and_assoc]
      refine ⟨_, rfl, g, rfl, ⟨_, .inl (.inl sgat)⟩, fun D hD => lc_listS (fun i y H2 => ∃ u, ((fun i u => ∃ b, (grps R (!j) P)[i]? = some b ∧ u = treeF R d b) i u) ∧ ToldAt H2 y u) stay_told hD (.inl (.inl sgat)) (by rw [List.length_map, sgl]; have := few2 (!j); omega) (fun i x H4 Nn hx e hH hN => ?_) (fun acc H4 e h4 hlen hall => ?_)⟩
      · obtain ⟨p0, b0, rfl, hp0, hb0, hl0⟩ := hg.get hx
        obtain ⟨n1, s1, _⟩ := nd2 (!j) b0 (List.mem_of_getElem? hb0)
        have lt := two_groups pm (fun g hg => (nd2 (!j) g hg).1) two (List.mem_of_getElem? hb0)
        have ss := s1.subset
        simp [wipe]
        exact ⟨q, p0, nr, b0, R, rfl, hq.up (e2.trans e), e _ _ hl0, n1, inc.sublist s1, fun x hx => inr x (ss hx), by omega, by omega, sym, no.sub fun x hx => ss hx, fun a ha b hb => ag a (ss ha) b (ss hb), fun v H5 e5 h5 => hN v H5 e5 ⟨_, ⟨b0, hb0, rfl⟩, h5⟩⟩
      · have tl2 : ToldL H4 acc ((grps R (!j) P).map (treeF R d)) := by
          refine toldL_iff.mpr ⟨by rw [List.length_map, hlen, List.length_map, sgl], fun i v t hv ht => ?_⟩
          obtain ⟨u, ⟨b, h5, rfl⟩, h6⟩ := hall i v hv
          rw [List.getElem?_map, h5] at ht
          cases ht
          exact h6
        show jTupL [.ref D] H4 _
        rw [j_tupL]
        refine ⟨acc, h4, fun q H5 n5 e5 h5 r H6 n6 e6 h6 => k (.ref r) H6 (((e2.trans e).trans e5).trans e6) ?_⟩
        rw [ToldAt]
        exact ⟨r, q, acc, rfl, h6, e6 _ _ h5, tl2.up (e5.trans e6)⟩
theorem ok_told_of (T : Txt K mg A) : ∀ d : Nat, FnOk P w K mg base CX0 (d + 2) A.a_told_of A.d_told_of ["near", "points"] (spToldF d)
  | 0 => none_spToldF
  | d + 1 => step_told_of T (ok_told_of T d)
end
end Jk

namespace Jk
open PySem L2 Evl

/-! ## what is near each point of a web -/
theorem stay_dk {D : Addr} {f : Nat → List Int} : StayD D fun i y H => ∃ t, y = .ref t ∧ H t = some (.dK (rowD (f i))) := fun i y H H' acc ⟨t, h1, h2⟩ hD k => ⟨t, h1, k _ _ h2 (ne_of h2 hD (by intro y; cases y))⟩
section
variable {J : It} {n : Nat} {G : Hp → Prop} {Y : Nat → Hp → V → Hp → Prop}
theorem dc_it (w : Walk J n G Y) {g : TG} {tt : TT} {tk tv : TE} {vs : List Nat} {σ : L2.St} {H1 : Hp} {D : Addr} {Qd : Hp → Prop} (Pv : Nat → Hp → Prop) (h0 : Pv 0 (upd H1 D (.dK []))) (hG : ∀ i H, i ≤ n → Pv i H → G H)
    (hs : ∀ i x H H', i < n → Pv i H → Y i H x H' → g x (wipe σ vs) H' fun σ2 H2 => wipe σ2 vs = wipe σ vs ∧ tt σ2 H2 fun b H3 =>
      if b = true then tk σ2 H3 fun y H4 => tv σ2 H4 fun z H5 => ∃ kvs k, y = kV k ∧ H5 D = some (.dK kvs) ∧ kvs.length < sizeLine ∧ Pv (i + 1) (upd H5 D (.dK (putK kvs k z))) else Pv (i + 1) H3) (hd : ∀ H, Pv n H → Qd H) :
    ∃ W : Nat → Nat → Hp → Prop, (∃ m, W 0 m (upd H1 D (.dK []))) ∧ ∀ i m H, W i m H →
      (J.stop i H ∧ Qd H) ∨ (J.go i H ∧ ∃ Nx : Hp → Prop, (∀ H', Nx H' → ∃ m', m' < m ∧ W (i + 1) m' H') ∧ ∀ x H', J.yld i H x H' → g x (wipe σ vs) H' fun σ2 H2 => wipe σ2 vs = wipe σ vs ∧ tt σ2 H2 fun b H3 =>
        if b = true then tk σ2 H3 fun y H4 => tv σ2 H4 fun z H5 => ∃ kvs k, y = kV k ∧ H5 D = some (.dK kvs) ∧ kvs.length < sizeLine ∧ Nx (upd H5 D (.dK (putK kvs k z))) else Nx H3) := by
  refine ⟨fun i m H => m = n - i ∧ i ≤ n ∧ Pv i H, ⟨n, by simp, Nat.zero_le _, h0⟩, ?_⟩
  rintro i m H ⟨rfl, hi, p⟩
  have q := hG i H hi p
  by_cases hlt : i < n
  · refine .inr ⟨w.goes i H hlt q, Pv (i + 1), fun H' p' => ⟨n - (i + 1), by omega, rfl, hlt, p'⟩, fun x H' y => hs i x H H' hlt p (w.yields i H x H' hlt q y)⟩
  · have e : i = n := by omega
    subst e
    exact .inl ⟨w.stops H q, hd H p⟩
end
theorem lt_of_le_nd {l : List Int} (nd : l.Nodup) (h : l.Pairwise (· ≤ ·)) : l.Pairwise (· < ·) := (nd.and h).imp fun ⟨a, b⟩ => by omega
theorem refs_of {P : Nat → Addr → Prop} : ∀ {acc : List V}, (∀ (i : Nat) (y : V), acc[i]? = some y → ∃ d, y = .ref d ∧ P i d) → ∃ ds : List Addr, acc = ds.map V.ref ∧ ∀ (i : Nat) (d : Addr), ds[i]? = some d → P i d := by
  intro acc h
  refine ⟨acc.map fun | .ref a => a | _ => 0, ?_, fun i d hd => ?_⟩
  · apply List.ext_getElem?
    intro i
    rw [List.getElem?_map, List.getElem?_map]
    cases c : acc[i]? with
    | none => rfl
    | some y =>
      obtain ⟨d, rfl, _⟩ := h i y c
      rfl
  · rw [List.getElem?_map] at hd
    cases c : acc[i]? with
    | none => rw [c] at hd; cases hd
    | some y =>
      obtain ⟨e, rfl, q⟩ := h i y c
      rw [c] at hd
      cases hd
      exact q
theorem nd_take {α : Type} {l : List α} (nd : l.Nodup) {i : Nat} {x : α} (h : l[i]? = some x) : ¬ x ∈ l.take i := fun z => by
  obtain ⟨k, hk, e⟩ := List.mem_iff_getElem.mp z
  rw [List.length_take] at hk
  rw [List.getElem_take] at e
  have hi : i < l.length := by
    rcases Nat.lt_or_ge i l.length with q | q
    · exact q
    · rw [List.getElem?_eq_none q] at h; cases h
  rw [List.getElem?_eq_getElem hi] at h
  cases h
  exact List.pairwise_iff_getElem.mp nd k i (by omega) hi (by omega) e
def spNearEach (A : Adr) : Sp := fun vs H Q _ => ∃ (p l : Addr) (ds : List Addr) (rows : List (List Int)), vs = [.ref p] ∧ WebAt A.c_Web H p l ds rows ∧ Good rows ∧
  ∀ g H', H g = none → Ex H H' → NearAt H' g (rows.map srt) → Q (.ref g) H'
section
variable {P : Program} {w : World} {K : PySem.W.Frag} {mg : Str → Option Value} {base : Heap} {A : Adr}
theorem ok_near_each (T : Txt K mg A) : FnOk P w K mg base CX0 4 A.a_near_each A.d_near_each ["web"] (spNearEach A) := by
  refine T.F_near_each.ok sc_near_each (fun vs H Q E h => ?_) (fun cdv C outer s H vs Q E hr h => ?_)
  · obtain ⟨p, l, ds, rows, rfl, _⟩ := h
    rfl
  · obtain ⟨p, l, ds, rows, rfl, W, G, k⟩ := h
    have hu := hu_of hr
    obtain ⟨⟨dx, w1⟩, w2, w3, w4, w5⟩ := id W
    refine ⟨_, (pss_one (ps_ret (pe_lc (own := [("point", 1)]) rfl sc_near_each.nd (pi_range1 rfl T.range (pa_cons (pe_meth0 (pv 0) T.cl_Web T.m_Web_many (ok_Web_many T) (hr.mono (by decide)) T.b_Web_many .nil pass0) pa_nil)) (blkOk_by (own := [("point", 1)]) (N := ["web", "point", "other"]) (sc := defScope s_near_each) (by decide +kernel)) (fun _ _ _ _ _ => by exact (pg_name (i := 1) sc_near_each.nd rfl (Or.inl rfl))) (fun _ _ _ _ _ => by exact pts_nil) (fun _ _ _ _ _ => by exact (pe_dc (own := [("other", 2)]) rfl sc_near_each.nd (by exact (pi_listK (K0 := K) (pe_meth (pv 0) T.cl_Web T.m_Web_beside (ok_Web_beside T) (hr.mono (by decide)) T.b_Web_beside .nil passL (pa_cons (pv 1) pa_nil)))) (blkOk_by (own := [("other", 2)]) (N := ["web", "point", "other"]) (sc := ⟨.function, [(Str.ofString ".0", .local), (Str.ofString "point", .local), (Str.ofString "web", .cell)], false, false, []⟩) (by decide +kernel)) (fun _ _ _ _ _ => by exact (pg_name (i := 2) sc_near_each.nd rfl (Or.inl rfl))) (fun _ _ _ _ _ => by exact pts_nil) (fun _ _ _ _ _ => by exact (pv 2)) (fun _ _ _ _ _ => by exact pe_bl)))))), ?_⟩
    simp [L2.start, and_assoc]
    unfold tLc iRng1
    have few := G.few
    simp [and_assoc, w1, spMany, web_ex W, -Bool.exists_bool]
    refine ⟨by omega, fun D hD => lc_rangeS (lo := 0) (g := gName 1) (fun i y H2 => ∃ d, y = .ref d ∧ H2 d = some (.dK (rowD (srt (rows.getD i []))))) stay_dk hD (by omega) (fun i H2 N hi e hH hN => ?_) (fun acc H2 e h4 hlen hall => ?_)⟩
    · simp [wipe]
      unfold tDc iList
      simp [and_assoc, w1, e _ _ w1, -Bool.exists_bool]
      have hi' : i < rows.length := hi
      refine ⟨p, l, ds, rows, .int i, rfl, W.up e, .int _, fun r hr => ?_, fun no => ?_, fun _ ys q H3 py ly nq e3 hq => ?_⟩
      · have := G.small r hr; omega
      · simp [okPt, inR] at no; omega
      have eys : ys = srt (rows.getD i []) := srt_uniq py ly
      have ndy : ys.Nodup := py.nodup_iff.mpr (G.nd i)
      have lys : ys.length ≤ 30 := by
        have := G.row i
        rw [py.length_eq]
        exact this
      refine ⟨q, rfl, ⟨_, .inl (.inl hq)⟩, fun D2 hD2 => dc_it (g := gName 2) (tt := tYes) (tk := tVar 2) (tv := tC (V.bl true)) (walk_list (xs := ys.map V.int)) (fun i H4 => Ex H3 H4 ∧ H4 D2 = some (.dK (rowD (ys.take i)))) ⟨Ex.new hD2, upd_same⟩ (fun i H4 _ h => .inl (.inl (h.1 _ _ hq))) (fun i x H4 H5 hi h y => ?_) (fun H4 h => ?_)⟩
      · obtain ⟨rfl, y⟩ := y
        obtain ⟨e4, h4⟩ := h
        rw [List.getElem?_map] at y
        cases c : ys[i]? with
        | none => rw [c] at y; simp at y
        | some m =>
          rw [c] at y
          simp at y
          subst y
          have nm : ¬ m ∈ ys.take i := nd_take ndy c
          simp [wipe, tYes]
          refine ⟨_, h4, by rw [rowD, List.length_map, List.length_take]; exact lt_line (by omega), Ex.mut e4 hD2, ?_⟩
          rw [upd_same, rowD_put nm, take_one c]
      · refine hN _ _ (e3.trans h.1) ⟨D2, rfl, ?_⟩
        rw [h.2, List.length_map, List.take_length, eys]
    · refine k D H2 hD e ?_
      obtain ⟨qs, rfl, hq⟩ := refs_of hall
      refine ⟨qs, h4, by rw [List.length_map] at hlen; rw [List.length_map, hlen], fun i d r h1 h2 => ?_⟩
      have := hq i d h1
      rw [List.getElem?_map] at h2
      cases c : rows[i]? with
      | none => rw [c] at h2; cases h2
      | some r0 =>
        rw [c] at h2
        cases h2
        rw [List.getD_eq_getElem?_getD, c] at this
        exact this
end
end Jk

namespace Jk
open PySem L2 Evl

/-! ## a row of a web -/
def endsF (nr : List (List Int)) (b c : Int) : List Int := (nr.getD b.toNat []).filter fun p => decide (p ≠ c) && !decide (p ∈ nr.getD c.toNat [])
def rowAt (nr : List (List Int)) (b c : Int) : Option (Int × Int) := (endsF nr b c).findSome? fun a => (endsF nr c b).findSome? fun d => if d ∈ nr.getD a.toNat [] then none else some (a, d)
def rowF (nr : List (List Int)) (ts : List (Int × Int)) : Option (Int × Int × Int × Int) := ts.findSome? fun p => (rowAt nr p.1 p.2).map fun q => (q.1, p.1, p.2, q.2)
def innF (nr : List (List Int)) (a d : Int) : Option (Int × Int) := if d ∈ nr.getD a.toNat [] then none else some (a, d)
theorem rowAt_eq (nr : List (List Int)) (b c : Int) : rowAt nr b c = (endsF nr b c).findSome? fun a => (endsF nr c b).findSome? (innF nr a) := rfl
theorem fs_step {α β : Type} {f : α → Option β} {l : List α} {i : Nat} {x : α} (h : l[i]? = some x) (n : (l.take i).findSome? f = none) : (l.take (i + 1)).findSome? f = f x := by
  rw [take_one h, List.findSome?_append, n]
  simp
theorem fs_here {α β : Type} {f : α → Option β} {l : List α} {i : Nat} {x : α} {y : β} (h : l[i]? = some x) (n : (l.take i).findSome? f = none) (e : f x = some y) : l.findSome? f = some y := by
  have := fs_step h n
  rw [e] at this
  rw [← List.take_append_drop (i + 1) l, List.findSome?_append, this]
  rfl
def nearF (rows : List (List Int)) : List (List Int) := rows.map srt
section
variable {J : It} {G : Hp → Prop} {g : TG} {tt : TT} {te : TE} {vs : List Nat} {σ : L2.St} {H1 : Hp} {D : Addr} {Qd : Hp → Prop}
theorem lc_walkF {ns : List Int} (w : Walk J ns.length G (fun i H x H' => H' = H ∧ ∃ n, ns[i]? = some n ∧ x = .int n)) (f : Int → Bool) (hD : H1 D = none) (hG : ∀ H, Ex H1 H → G H) (few : ns.length ≤ 100000)
    (hs : ∀ (i : Nat) (n : Int) (H : Hp), ns[i]? = some n → Ex H1 H → g (.int n) (wipe σ vs) H fun σ2 H2 => wipe σ2 vs = wipe σ vs ∧ (∀ N : Bool → Hp → Prop, (∀ H', Ex H H' → N (f n) H') → tt σ2 H2 N) ∧ ∀ (H3 : Hp) (N : V → Hp → Prop), N (.int n) H3 → te σ2 H3 N)
    (mg : ∀ x σ H Q Q', (∀ s h, Q s h → Q' s h) → g x σ H Q → g x σ H Q')
    (hd : ∀ H', Ex H1 H' → LsI H' D (ns.filter f) → Qd H') :
    ∃ W : Nat → Nat → Hp → Prop, (∃ m, W 0 m (upd H1 D (.lst []))) ∧ ∀ i m H, W i m H →
      (J.stop i H ∧ Qd H) ∨ (J.go i H ∧ ∃ Nx : Hp → Prop, (∀ H', Nx H' → ∃ m', m' < m ∧ W (i + 1) m' H') ∧ ∀ x H', J.yld i H x H' → g x (wipe σ vs) H' fun σ2 H2 => wipe σ2 vs = wipe σ vs ∧ tt σ2 H2 fun b H3 =>
        if b = true then te σ2 H3 fun y H4 => ∃ acc, H4 D = some (.lst acc) ∧ acc.length < sizeLine ∧ Nx (upd H4 D (.lst (acc ++ [y]))) else Nx H3) := by
  refine lc_it w (fun i H => Ex H1 H ∧ LsI H D ((ns.take i).filter f)) ⟨Ex.new hD, upd_same⟩ (fun i H _ c => hG H c.1) (fun i x H H' hi c y => ?_) (fun H c => ?_)
  · obtain ⟨rfl, n, hn, rfl⟩ := y
    obtain ⟨e, h⟩ := c
    refine mg _ _ _ _ _ (fun s2 h2 q => ?_) (hs i n H' hn e)
    obtain ⟨q1, q2, q3⟩ := q
    refine ⟨q1, q2 _ fun H' e' => ?_⟩
    have e1 := e.trans e'
    have h' : LsI H' D ((ns.take i).filter f) := e' _ _ h
    have st := filter_take (f := f) hn
    by_cases hf : f n = true
    · rw [if_pos hf]
      rw [hf] at st
      refine q3 _ _ ⟨_, h', lt_line ?_, Ex.mut e1 hD, ?_⟩
      · rw [List.length_map]
        have := List.length_filter_le f (ns.take i)
        have : (ns.take i).length ≤ ns.length := by rw [List.length_take]; omega
        omega
      · unfold LsI
        rw [upd_same, st]
        simp
    · rw [if_neg hf]
      have hf' : f n = false := by simpa using hf
      rw [hf'] at st
      exact ⟨e1, by rw [st]; simpa using h'⟩
  · obtain ⟨e, h⟩ := c
    rw [List.take_length] at h
    exact hd H e h
end
theorem walk_row {d : Addr} {o : Obj} (ns : List Int) : Walk (Itk d o (rowD ns)) ns.length (fun H => H d = some (.frz o (.dK (rowD ns)))) (fun i H x H' => H' = H ∧ ∃ n, ns[i]? = some n ∧ x = .int n) := by
  have ln : (rowD ns).length = ns.length := by simp [rowD]
  refine ⟨fun i H hi q => ⟨q, by omega⟩, fun H q => ⟨q, by omega⟩, fun i H x H' hi q y => ⟨y.1, ?_⟩⟩
  obtain ⟨k, v, h, rfl⟩ := y.2
  unfold rowD at h
  rw [List.getElem?_map] at h
  cases c : ns[i]? with
  | none => rw [c] at h; cases h
  | some n => rw [c] at h; cases h; exact ⟨n, rfl, rfl⟩
theorem ends_first {q : Addr} {b c : Int} {nr : List (List Int)} {p0 x2 x3 x4 x5 x6 x7 x8 : Option V} {D : Ends} {H : Hp} (hq : NearAt H q nr) (hb : 0 ≤ b ∧ b < nr.length) (hc : 0 ≤ c ∧ c < nr.length) (few : ∀ r ∈ nr, r.length ≤ 60) (v2 : [p0, some (.ref q), x2, x3, x4, x5, x6, x7, x8][2]? = some (some (.int b))) (v3 : [p0, some (.ref q), x2, x3, x4, x5, x6, x7, x8][3]? = some (some (.int c)))
    (k : ∀ L H', H L = none → Ex H H' → LsI H' L (endsF nr b c) → D.nx ([p0, some (.ref q), x2, x3, x4, x5, x6, x7, x8].set 4 (some (.ref L))) H') :
    tLock (tAsg (tLc (iKeys (tOp jIxL (tVar 1) (tVar 2))) (gName 8) (tAnd (tTest (tOp rNe (tVar 8) (tVar 3))) (tB (tDNotIn (tVar 8) (tOp jIxL (tVar 1) (tVar 3))))) (tVar 8) [8]) (gName 4)) D [p0, some (.ref q), x2, x3, x4, x5, x6, x7, x8] H := by
  obtain ⟨ws, db, w1, w2, w3⟩ := hq.get hb.1 hb.2
  obtain ⟨ws', dc, u1, u2, u3⟩ := hq.get hc.1 hc.2
  have wu : ws' = ws := by rw [w1] at u1; cases u1; rfl
  subst wu
  have qd : q ≠ db := fun z => by rw [z, w3] at w1; cases w1
  have eF : ∀ od, (upd H db (.frz od (.dK (rowD (nr.getD b.toNat []))))) q = some (.lst ws') := fun od => by rw [upd_ne qd]; exact w1
  have ln : (nr.getD b.toNat []).length ≤ 60 := by
    rw [List.getD_eq_getElem?_getD]
    cases e : nr[b.toNat]? with
    | none => simp
    | some r => exact few r (List.mem_of_getElem? e)
  have rd : ∀ od, Rd (upd H db (.frz od (.dK (rowD (nr.getD b.toNat []))))) dc (.dK (rowD (nr.getD c.toNat []))) := fun od => by
    by_cases z : dc = db
    · subst z
      rw [w3] at u3
      injection u3 with u3
      injection u3 with u3
      rw [← u3]
      exact .inr ⟨od, upd_same⟩
    · exact .inl (by rw [upd_ne z]; exact u3)
  refine ⟨db, _, w3, trivial, fun od => ?_⟩
  refine ⟨_, rfl, _, v2, q, ws', b, .ref db, rfl, rfl, eF od, hb.1, w2, db, od, rfl, .inl ⟨_, upd_same, fun L hL => lc_walkF (g := gName 8) (tt := tAnd (tTest (tOp rNe (tVar 8) (tVar 3))) (tB (tDNotIn (tVar 8) (tOp jIxL (tVar 1) (tVar 3))))) (te := tVar 8) (walk_row (nr.getD b.toNat [])) (fun p => decide (p ≠ c) && !decide (p ∈ nr.getD c.toNat [])) hL (fun H5 e => e _ _ upd_same) (by omega) (fun i n H5 hn e => ?_) (fun x σ H Q Q' m q => m _ _ q) (fun H5 e h5 => ?_)⟩⟩
  · simp at v2 v3
    subst v2 v3
    simp [wipe, j_dnot, and_assoc]
    intro N hN
    have hn := hN H5 (Ex.refl _)
    by_cases nc : n = c
    · refine .inl ⟨nc, ?_⟩
      simpa [nc] using hn
    · have r5 : Rd H5 dc (.dK (rowD (nr.getD c.toNat []))) := (rd od).imp (e _ _) fun ⟨o, h⟩ => ⟨o, e _ _ h⟩
      refine .inr ⟨nc, ws', e _ _ (eF od), hc.1, _, u2, dc, rfl, _, .inl ⟨_, Sum.inl n, r5, rfl, rfl⟩, ?_⟩
      rw [rowD_val]
      by_cases nm : n ∈ nr.getD c.toNat []
      · rw [if_pos nm]
        rw [List.getD_eq_getElem?_getD] at nm
        exact .inl ⟨rfl, by simpa [nm] using hn⟩
      · rw [if_neg nm]
        rw [List.getD_eq_getElem?_getD] at nm
        exact .inr ⟨rfl, by simpa [nm, nc] using hn⟩
  · have Lb : L ≠ db := fun z => by rw [z, upd_same] at hL; cases hL
    refine ⟨e _ _ upd_same, k L _ (by rw [upd_ne Lb] at hL; exact hL) (ex_lock w3 e) ?_⟩
    unfold LsI
    rw [upd_ne Lb]
    exact h5
theorem ends_last {q : Addr} {b c : Int} {nr : List (List Int)} {p0 x2 x3 x4 x5 x6 x7 x8 : Option V} {D : Ends} {H : Hp} (hq : NearAt H q nr) (hb : 0 ≤ b ∧ b < nr.length) (hc : 0 ≤ c ∧ c < nr.length) (few : ∀ r ∈ nr, r.length ≤ 60) (v2 : [p0, some (.ref q), x2, x3, x4, x5, x6, x7, x8][3]? = some (some (.int b))) (v3 : [p0, some (.ref q), x2, x3, x4, x5, x6, x7, x8][2]? = some (some (.int c)))
    (k : ∀ L H', H L = none → Ex H H' → LsI H' L (endsF nr b c) → D.nx ([p0, some (.ref q), x2, x3, x4, x5, x6, x7, x8].set 5 (some (.ref L))) H') :
    tLock (tAsg (tLc (iKeys (tOp jIxL (tVar 1) (tVar 3))) (gName 8) (tAnd (tTest (tOp rNe (tVar 8) (tVar 2))) (tB (tDNotIn (tVar 8) (tOp jIxL (tVar 1) (tVar 2))))) (tVar 8) [8]) (gName 5)) D [p0, some (.ref q), x2, x3, x4, x5, x6, x7, x8] H := by
  obtain ⟨ws, db, w1, w2, w3⟩ := hq.get hb.1 hb.2
  obtain ⟨ws', dc, u1, u2, u3⟩ := hq.get hc.1 hc.2
  have wu : ws' = ws := by rw [w1] at u1; cases u1; rfl
  subst wu
  have qd : q ≠ db := fun z => by rw [z, w3] at w1; cases w1
  have eF : ∀ od, (upd H db (.frz od (.dK (rowD (nr.getD b.toNat []))))) q = some (.lst ws') := fun od => by rw [upd_ne qd]; exact w1
  have ln : (nr.getD b.toNat []).length ≤ 60 := by
    rw [List.getD_eq_getElem?_getD]
    cases e : nr[b.toNat]? with
    | none => simp
    | some r => exact few r (List.mem_of_getElem? e)
  have rd : ∀ od, Rd (upd H db (.frz od (.dK (rowD (nr.getD b.toNat []))))) dc (.dK (rowD (nr.getD c.toNat []))) := fun od => by
    by_cases z : dc = db
    · subst z
      rw [w3] at u3
      injection u3 with u3
      injection u3 with u3
      rw [← u3]
      exact .inr ⟨od, upd_same⟩
    · exact .inl (by rw [upd_ne z]; exact u3)
  refine ⟨db, _, w3, trivial, fun od => ?_⟩
  refine ⟨_, rfl, _, v2, q, ws', b, .ref db, rfl, rfl, eF od, hb.1, w2, db, od, rfl, .inl ⟨_, upd_same, fun L hL => lc_walkF (g := gName 8) (tt := tAnd (tTest (tOp rNe (tVar 8) (tVar 2))) (tB (tDNotIn (tVar 8) (tOp jIxL (tVar 1) (tVar 2))))) (te := tVar 8) (walk_row (nr.getD b.toNat [])) (fun p => decide (p ≠ c) && !decide (p ∈ nr.getD c.toNat [])) hL (fun H5 e => e _ _ upd_same) (by omega) (fun i n H5 hn e => ?_) (fun x σ H Q Q' m q => m _ _ q) (fun H5 e h5 => ?_)⟩⟩
  · simp at v2 v3
    subst v2 v3
    simp [wipe, j_dnot, and_assoc]
    intro N hN
    have hn := hN H5 (Ex.refl _)
    by_cases nc : n = c
    · refine .inl ⟨nc, ?_⟩
      simpa [nc] using hn
    · have r5 : Rd H5 dc (.dK (rowD (nr.getD c.toNat []))) := (rd od).imp (e _ _) fun ⟨o, h⟩ => ⟨o, e _ _ h⟩
      refine .inr ⟨nc, ws', e _ _ (eF od), hc.1, _, u2, dc, rfl, _, .inl ⟨_, Sum.inl n, r5, rfl, rfl⟩, ?_⟩
      rw [rowD_val]
      by_cases nm : n ∈ nr.getD c.toNat []
      · rw [if_pos nm]
        rw [List.getD_eq_getElem?_getD] at nm
        exact .inl ⟨rfl, by simpa [nm] using hn⟩
      · rw [if_neg nm]
        rw [List.getD_eq_getElem?_getD] at nm
        exact .inr ⟨rfl, by simpa [nm, nc] using hn⟩
  · have Lb : L ≠ db := fun z => by rw [z, upd_same] at hL; cases hL
    refine ⟨e _ _ upd_same, k L _ (by rw [upd_ne Lb] at hL; exact hL) (ex_lock w3 e) ?_⟩
    unfold LsI
    rw [upd_ne Lb]
    exact h5
theorem near_get (rows : List (List Int)) (i : Nat) : (nearF rows).getD i [] = srt (rows.getD i []) := by
  unfold nearF
  rw [List.getD_eq_getElem?_getD, List.getD_eq_getElem?_getD, List.getElem?_map]
  cases rows[i]? with
  | none => simp [srt]
  | some r => rfl
theorem ends_in {rows : List (List Int)} (G : Good rows) {b c a : Int} (h : a ∈ endsF (nearF rows) b c) : a ∈ rows.getD b.toNat [] ∧ (0 ≤ a ∧ a < rows.length) ∧ a ≠ c ∧ a ∉ rows.getD c.toNat [] := by
  unfold endsF at h
  rw [List.mem_filter, near_get, near_get, srt_mem] at h
  obtain ⟨h1, h2⟩ := h
  rw [Bool.and_eq_true] at h2
  have e2 := of_decide_eq_true h2.1
  have e3 : ¬ a ∈ srt (rows.getD c.toNat []) := fun z => by rw [decide_eq_true z] at h2; exact absurd h2.2 (by decide)
  rw [srt_mem] at e3
  exact ⟨h1, G.rng _ _ h1, e2, e3⟩
theorem ends_few {nr : List (List Int)} (fw : ∀ r ∈ nr, r.length ≤ 60) (b c : Int) : (endsF nr b c).length ≤ 60 := by
  refine Nat.le_trans (List.length_filter_le _ _) ?_
  rw [List.getD_eq_getElem?_getD]
  cases e : nr[b.toNat]? with
  | none => simp
  | some r => exact fw r (List.mem_of_getElem? e)
def spRowIn (A : Adr) : Sp := fun vs H Q _ => ∃ (p l : Addr) (ds : List Addr) (rows : List (List Int)), vs = [.ref p] ∧ WebAt A.c_Web H p l ds rows ∧ Good rows ∧
  (rowF (nearF rows) (tiesL rows) = none → ∀ H', Ex H H' → Q .non H') ∧
  ∀ a b c d, rowF (nearF rows) (tiesL rows) = some (a, b, c, d) → ∀ r H', H r = none → Ex H H' → H' r = some (.tup [.int a, .int b, .int c, .int d]) → Q (.ref r) H'
section
variable {P : Program} {w : World} {K : PySem.W.Frag} {mg : Str → Option Value} {base : Heap} {A : Adr}
theorem ok_row_in (T : Txt K mg A) : FnOk P w K mg base CX0 5 A.a_row_in A.d_row_in ["web"] (spRowIn A) := by
  refine T.F_row_in.ok sc_row_in (fun vs H Q E h => ?_) (fun cdv C outer s H vs Q E hr h => ?_)
  · obtain ⟨p, l, ds, rows, rfl, _⟩ := h
    rfl
  · obtain ⟨p, l, ds, rows, rfl, W, G, k1, k2⟩ := h
    have hu := hu_of hr
    obtain ⟨⟨dx, w1⟩, w2, w3, w4, w5⟩ := id W
    refine ⟨_, (pss_cons (ps_set (i := 1) sc_row_in.nd rfl (Or.inr rfl) (pe_call (ok_near_each T) (hr.mono (by decide)) rfl T.g_near_each T.k_near_each T.b_near_each .nil pass0 (pa_cons (pv 0) pa_nil)))
  (pss_cons (ps_for PassesOwn.never rfl (pi_list (pe_meth0 (pv 0) T.cl_Web T.m_Web_ties (ok_Web_ties T) (hr.mono (by decide)) T.b_Web_ties .nil pass0)) (pg_tupJ (n := 2) rfl (pgs_cons (pg_name (i := 2) sc_row_in.nd rfl (.inr rfl)) (pgs_cons (pg_name (i := 3) sc_row_in.nd rfl (.inr rfl)) pgs_nil)))
    (pss_cons (ps_lock (ps_setLc (i := 4) (own := [("point", 8)]) rfl sc_row_in.nd rfl rfl (sw_true rfl rfl rfl (by decide +kernel)) (pi_keys (pe_ix ix_listJ (pv 1) (pv 2) (fun _ _ => rfl))) (blkOk_by (own := [("point", 8)]) (N := ["web", "near", "b", "c", "firsts", "lasts", "a", "d", "point"]) (sc := defScope s_row_in) (by decide +kernel)) (fun _ _ _ _ _ => by exact (pg_name (i := 8) sc_row_in.nd rfl (Or.inl rfl))) (fun _ _ _ _ _ => by exact (pts_one (PW.pt (pw_and (pt_cmpR op_ne (pv 8) (pv 3) (nomark _)) (pw_and1 (pt_cmp (pc_dnotin (by exact hu) (pv 8) (pe_ix ix_listJ (pv 1) (pv 3) (fun _ _ => rfl))))))))) (fun _ _ _ _ _ => by exact (pv 8))))
      (pss_cons (ps_lock (ps_setLc (i := 5) (own := [("point", 8)]) rfl sc_row_in.nd rfl rfl (sw_true rfl rfl rfl (by decide +kernel)) (pi_keys (pe_ix ix_listJ (pv 1) (pv 3) (fun _ _ => rfl))) (blkOk_by (own := [("point", 8)]) (N := ["web", "near", "b", "c", "firsts", "lasts", "a", "d", "point"]) (sc := defScope s_row_in) (by decide +kernel)) (fun _ _ _ _ _ => by exact (pg_name (i := 8) sc_row_in.nd rfl (Or.inl rfl))) (fun _ _ _ _ _ => by exact (pts_one (PW.pt (pw_and (pt_cmpR op_ne (pv 8) (pv 2) (nomark _)) (pw_and1 (pt_cmp (pc_dnotin (by exact hu) (pv 8) (pe_ix ix_listJ (pv 1) (pv 2) (fun _ _ => rfl))))))))) (fun _ _ _ _ _ => by exact (pv 8))))
      (pss_one (ps_for PassesOwn.never rfl (pi_list (pv 4)) (pg_name (i := 6) sc_row_in.nd rfl (.inl rfl))
        (pss_one (ps_for PassesOwn.never rfl (pi_list (pv 5)) (pg_name (i := 7) sc_row_in.nd rfl (.inl rfl))
            (pss_one (ps_if (pt_cmp (pc_dnotin (by exact hu) (pv 7) (pe_ix ix_listJ (pv 1) (pv 6) (fun _ _ => rfl))))
                (pss_one (ps_ret (pe_tupJ (pa_cons (pv 6) (pa_cons (pv 2) (pa_cons (pv 3) (pa_cons (pv 7) pa_nil)))))))
                pss_nil)))))))))
  (pss_one (ps_ret pe_non)))), ?_⟩
    have few := G.few
    refine seq_by (fun σ1 H1 => ∃ q, σ1 = [some (.ref p), some (.ref q), none, none, none, none, none, none, none] ∧ Ex H H1 ∧ NearAt H1 q (nearF rows)) (fun N hN => ?_) (fun s1 H1 m => ?_)
    · simp [L2.start, and_assoc]
      exact ⟨p, l, ds, rows, rfl, W, G, fun g H2 n2 e2 h2 => hN _ _ ⟨g, rfl, e2, h2⟩⟩
    obtain ⟨q, rfl, e1, hq⟩ := m
    have cl := (ties_nd rows)
    refine seq_by (fun σ1 H2 => rowF (nearF rows) (tiesL rows) = none ∧ Ex H H2) (fun N hN => ?_) (fun s1 H2 m => ?_)
    rotate_left
    · simp
      exact k1 m.1 _ m.2
    change tMeth A.c_Web _ (spTies A) [] E0 (tVar 0) tNil _ H1 _
    rw [j_meth]
    refine ⟨_, rfl, p, dx, _, rfl, e1 _ _ w1, by simp, p, l, ds, rows, rfl, W.up e1, few, fun ts g H2 ng e2 hg hts => ⟨g, rfl, ⟨_, .inl (.inl hg)⟩, for_list (xs := ts.map V.ref) (fun i σ H3 => ∃ b2 b3 b4 b5 b6 b7 b8, σ = [some (.ref p), some (.ref q), b2, b3, b4, b5, b6, b7, b8] ∧ Ex H2 H3 ∧ rowF (nearF rows) ((tiesL rows).take i) = none) ⟨none, none, none, none, none, none, none, rfl, Ex.refl _, rfl⟩ (fun i σ H3 _ h => ?_) (fun i x σ H3 hx h => ?_) (fun σ H3 h => ?_)⟩⟩
    · obtain ⟨_, _, _, _, _, _, _, rfl, e5, _⟩ := h
      exact .inl (.inl (e5 _ _ hg))
    · obtain ⟨b2, b3, b4, b5, b6, b7, b8, rfl, e3, hi⟩ := h
      obtain ⟨t, b, c, ht, hbc, htt, rfl⟩ : ∃ t b c, ts[i]? = some t ∧ (tiesL rows)[i]? = some (b, c) ∧ H2 t = some (.tup [.int b, .int c]) ∧ V.ref t = x := by
        rw [List.getElem?_map] at hx
        cases z : ts[i]? with
        | none => rw [z] at hx; cases hx
        | some t =>
          rw [z] at hx
          have li : i < (tiesL rows).length := by rw [← hts.1]; exact lt_of_get z
          have g := List.getElem?_eq_getElem li
          exact ⟨t, _, _, rfl, g, hts.2 i t _ z g, by simpa using hx⟩
      obtain ⟨bn, cn, ebc, lbc, tbc⟩ := (ties_iff G).mp (List.mem_of_getElem? hbc)
      injection ebc with eb ec
      have lt := G.lt tbc
      have nl : (nearF rows).length = rows.length := by simp [nearF]
      have hb : 0 ≤ b ∧ b < (nearF rows).length := by omega
      have hc : 0 ≤ c ∧ c < (nearF rows).length := by omega
      have fw : ∀ r ∈ nearF rows, r.length ≤ 60 := fun r hr => by
        obtain ⟨r0, h0, rfl⟩ := List.mem_map.mp hr
        rw [srt_len]
        exact G.small r0 h0
      rw [j_tupG]
      refine ⟨_, e3 _ _ htt, rfl, ?_⟩
      rw [j_gcons, j_gname, j_gcons, j_gname, j_gnil]
      change tSeq _ _ _ [some (.ref p), some (.ref q), some (.int b), some (.int c), b4, b5, b6, b7, b8] H3
      have hq3 := hq.up (e2.trans e3)
      refine seq_by (fun σ1 H4 => ∃ L, σ1 = [some (.ref p), some (.ref q), some (.int b), some (.int c), some (.ref L), b5, b6, b7, b8] ∧ Ex H3 H4 ∧ LsI H4 L (endsF (nearF rows) b c)) (fun N hN => ?_) (fun s1 H4 m => ?_)
      · exact ends_first hq3 hb hc fw rfl rfl fun L H' nL eL hL => hN _ _ ⟨L, rfl, eL, hL⟩
      obtain ⟨L1, rfl, e4, hL1⟩ := m
      refine seq_by (fun σ1 H5 => ∃ L, σ1 = [some (.ref p), some (.ref q), some (.int b), some (.int c), some (.ref L1), some (.ref L), b6, b7, b8] ∧ Ex H4 H5 ∧ LsI H5 L (endsF (nearF rows) c b)) (fun N hN => ?_) (fun s1 H5 m => ?_)
      · exact ends_last (hq3.up e4) hc hb fw rfl rfl fun L H' nL eL hL => hN _ _ ⟨L, rfl, eL, hL⟩
      obtain ⟨L2, rfl, e5, hL2⟩ := m
      have hL1' : LsI H5 L1 (endsF (nearF rows) b c) := e5 _ _ hL1
      have e35 := e4.trans e5
      refine ⟨_, rfl, L1, rfl, ⟨_, .inl (.inl hL1')⟩, for_list (xs := (endsF (nearF rows) b c).map V.int) (fun k σ H6 => ∃ c6 c7, σ = [some (.ref p), some (.ref q), some (.int b), some (.int c), some (.ref L1), some (.ref L2), c6, c7, b8] ∧ Ex H5 H6 ∧ ((endsF (nearF rows) b c).take k).findSome? (fun a => (endsF (nearF rows) c b).findSome? (innF (nearF rows) a)) = none) ⟨b6, b7, rfl, Ex.refl _, rfl⟩ (fun k σ H6 _ h => ?_) (fun k x σ H6 hx h => ?_) (fun σ H6 h => ?_)⟩
      · obtain ⟨_, _, rfl, e6, _⟩ := h
        exact .inl (.inl (e6 _ _ hL1'))
      · obtain ⟨c6, c7, rfl, e6, hk⟩ := h
        obtain ⟨a, ha, rfl⟩ : ∃ a, (endsF (nearF rows) b c)[k]? = some a ∧ V.int a = x := by
          rw [List.getElem?_map] at hx
          cases z : (endsF (nearF rows) b c)[k]? with
          | none => rw [z] at hx; cases hx
          | some t => rw [z] at hx; exact ⟨t, rfl, by simpa using hx⟩
        rw [j_gname]
        change tFor _ _ _ _ [some (.ref p), some (.ref q), some (.int b), some (.int c), some (.ref L1), some (.ref L2), some (.int a), c7, b8] H6
        have ain := (ends_in G (List.mem_of_getElem? ha)).2.1
        have hL2' : LsI H6 L2 (endsF (nearF rows) c b) := e6 _ _ hL2
        refine ⟨_, rfl, L2, rfl, ⟨_, .inl (.inl hL2')⟩, for_list (xs := (endsF (nearF rows) c b).map V.int) (fun m σ H7 => ∃ c7, σ = [some (.ref p), some (.ref q), some (.int b), some (.int c), some (.ref L1), some (.ref L2), some (.int a), c7, b8] ∧ Ex H6 H7 ∧ ((endsF (nearF rows) c b).take m).findSome? (innF (nearF rows) a) = none) ⟨c7, rfl, Ex.refl _, rfl⟩ (fun m σ H7 _ h => ?_) (fun m x σ H7 hx h => ?_) (fun σ H7 h => ?_)⟩
        · obtain ⟨_, rfl, e7, _⟩ := h
          exact .inl (.inl (e7 _ _ hL2'))
        · obtain ⟨d7, rfl, e7, hm⟩ := h
          obtain ⟨d, hd, rfl⟩ : ∃ d, (endsF (nearF rows) c b)[m]? = some d ∧ V.int d = x := by
            rw [List.getElem?_map] at hx
            cases z : (endsF (nearF rows) c b)[m]? with
            | none => rw [z] at hx; cases hx
            | some t => rw [z] at hx; exact ⟨t, rfl, by simpa using hx⟩
          obtain ⟨ws, da, y1, y2, y3⟩ := (hq3.up (e35.trans (e6.trans e7))).get ain.1 (by omega)
          simp [j_dnot, and_assoc, -List.findSome?_eq_none_iff]
          refine ⟨ws, y1, ain.1, _, y2, da, rfl, _, DGet.k (k := Sum.inl d) y3, ?_⟩
          have eX : Ex H H7 := e1.trans (e2.trans (e3.trans (e35.trans (e6.trans e7))))
          rw [rowD_val]
          by_cases dm : d ∈ (nearF rows).getD a.toNat []
          · rw [if_pos dm]
            refine .inl ⟨rfl, e7, ?_⟩
            rw [fs_step hd hm, innF, if_pos dm]
          · rw [if_neg dm]
            have s1 : (endsF (nearF rows) c b).findSome? (innF (nearF rows) a) = some (a, d) := fs_here hd hm (by rw [innF, if_neg dm])
            have s2 : rowAt (nearF rows) b c = some (a, d) := by rw [rowAt_eq]; exact fs_here ha hk s1
            have s3 : rowF (nearF rows) (tiesL rows) = some (a, b, c, d) := by
              unfold rowF
              refine fs_here hbc hi ?_
              rw [s2]
              rfl
            exact .inr ⟨rfl, fun r H8 n8 e8 h8 => k2 a b c d s3 r H8 (fresh_back (eX.trans (Ex.refl _)) n8) (eX.trans e8) h8⟩
        · obtain ⟨d7, rfl, e7, hm⟩ := h
          rw [List.length_map, List.take_length] at hm
          refine ⟨_, _, rfl, e6.trans e7, ?_⟩
          rw [fs_step ha hk]
          exact hm
      · obtain ⟨c6, c7, rfl, e6, hk⟩ := h
        rw [List.length_map, List.take_length] at hk
        refine ⟨_, _, _, _, _, _, _, rfl, e3.trans (e35.trans e6), ?_⟩
        have hi' : ((tiesL rows).take i).findSome? (fun p => (rowAt (nearF rows) p.1 p.2).map fun q => (q.1, p.1, p.2, q.2)) = none := hi
        show ((tiesL rows).take (i + 1)).findSome? (fun p => (rowAt (nearF rows) p.1 p.2).map fun q => (q.1, p.1, p.2, q.2)) = none
        rw [fs_step hbc hi', rowAt_eq]
        rw [hk]
        rfl
    · obtain ⟨b2, b3, b4, b5, b6, b7, b8, rfl, e3, hi⟩ := h
      have : (ts.map V.ref).length = (tiesL rows).length := by rw [List.length_map, hts.1]
      rw [this, List.take_length] at hi
      exact hN _ _ ⟨hi, e1.trans (e2.trans e3)⟩
end
end Jk

namespace Jk
open PySem L2 Evl
/-! ## rows and trees of webs -/
section
variable {rows : List (List Int)}
theorem tied_mem {a b : Int} : tied rows a b = true ↔ b ∈ rows.getD a.toNat [] := by unfold tied; rw [decide_eq_true_iff]
theorem tied_not {a b : Int} : tied rows a b = false ↔ ¬ b ∈ rows.getD a.toNat [] := by unfold tied; rw [decide_eq_false_iff_not]
theorem tied_rng (G : Good rows) {a b : Int} (h0 : 0 ≤ a) (h : tied rows a b = true) : (0 ≤ a ∧ a < rows.length) ∧ 0 ≤ b ∧ b < rows.length := by
  have m := tied_mem.mp h
  refine ⟨⟨h0, ?_⟩, G.rng _ _ m⟩
  rcases Int.lt_or_le a rows.length with q | q
  · exact q
  · rw [List.getD_eq_getElem?_getD, List.getElem?_eq_none (by omega)] at m
    cases m
theorem tied_sym (G : Good rows) {a b : Int} (ha : 0 ≤ a ∧ a < rows.length) (hb : 0 ≤ b ∧ b < rows.length) : tied rows a b = tied rows b a := by
  have s := G.sy a.toNat b.toNat (by omega) (by omega)
  rw [Int.toNat_of_nonneg ha.1, Int.toNat_of_nonneg hb.1] at s
  unfold tied
  rw [decide_eq_decide]
  exact s
theorem tied_self (G : Good rows) {a : Int} (ha : 0 ≤ a) : tied rows a a = false := by
  rw [tied_not]
  have := G.irr a.toNat
  rwa [Int.toNat_of_nonneg ha] at this
theorem fs_some {α β : Type} {f : α → Option β} {l : List α} {y : β} (h : l.findSome? f = some y) : ∃ x ∈ l, f x = some y := List.exists_of_findSome?_eq_some h
theorem row_sound (G : Good rows) {a b c d : Int} (h : rowF (nearF rows) (tiesL rows) = some (a, b, c, d)) : (∀ x ∈ [a, b, c, d], 0 ≤ x ∧ x < rows.length) ∧ RowR (tied rows) a b c d := by
  obtain ⟨⟨b', c'⟩, hbc, e⟩ := fs_some h
  cases r : rowAt (nearF rows) b' c' with
  | none => simp only at e; rw [r] at e; cases e
  | some q =>
    simp only at e
    rw [r] at e
    obtain ⟨a', d'⟩ := q
    injection e with e
    injection e with e1 e
    injection e with e2 e
    injection e with e3 e4
    subst e1 e2 e3 e4
    rw [rowAt_eq] at r
    obtain ⟨a2, ha, r⟩ := fs_some r
    obtain ⟨d2, hd, r⟩ := fs_some r
    unfold innF at r
    split at r
    · cases r
    rename_i nd
    injection r with r
    injection r with r1 r2
    subst r1 r2
    obtain ⟨bn, cn, ebc, lbc, tbc⟩ := (ties_iff G).mp hbc
    injection ebc with eb ec
    have lt := G.lt tbc
    obtain ⟨a1, ar, a3, a4⟩ := ends_in G ha
    obtain ⟨d1, dr, d3, d4⟩ := ends_in G hd
    rw [near_get, srt_mem] at nd
    have br : 0 ≤ b' ∧ b' < rows.length := by omega
    have cr : 0 ≤ c' ∧ c' < rows.length := by omega
    have tb : tied rows b' c' = true := by
      rw [eb, ec, tied_iff]; exact tbc
    refine ⟨fun x hx => ?_, ?_, tb, ?_, ?_, tied_not.mpr nd, ?_⟩
    · simp at hx
      rcases hx with rfl | rfl | rfl | rfl <;> assumption
    · rw [tied_sym G ar br]; exact tied_mem.mpr a1
    · exact tied_mem.mpr d1
    · rw [tied_sym G ar cr]; exact tied_not.mpr a4
    · exact tied_not.mpr d4
theorem in_ends (G : Good rows) {b c a : Int} (h1 : tied rows b a = true) (h2 : a ≠ c) (h3 : tied rows c a = false) : a ∈ endsF (nearF rows) b c := by
  unfold endsF
  rw [List.mem_filter, near_get, near_get, srt_mem]
  refine ⟨tied_mem.mp h1, ?_⟩
  have : ¬ a ∈ srt (rows.getD c.toNat []) := by rw [srt_mem]; exact tied_not.mp h3
  rw [decide_eq_true h2, decide_eq_false this]
  rfl
theorem row_at (G : Good rows) {a b c d : Int} (hbc : (b, c) ∈ tiesL rows) (ha : a ∈ endsF (nearF rows) b c) (hd : d ∈ endsF (nearF rows) c b) (n : tied rows a d = false) : rowF (nearF rows) (tiesL rows) ≠ none := by
  intro h
  unfold rowF at h
  rw [List.findSome?_eq_none_iff] at h
  have h1 := h _ hbc
  simp only [Option.map_eq_none_iff] at h1
  rw [rowAt_eq, List.findSome?_eq_none_iff] at h1
  have h2 := h1 _ ha
  rw [List.findSome?_eq_none_iff] at h2
  have h3 := h2 _ hd
  unfold innF at h3
  rw [if_neg (show ¬ d ∈ (nearF rows).getD a.toNat [] by rw [near_get, srt_mem]; exact tied_not.mp n)] at h3
  cases h3
theorem row_none (G : Good rows) (h : rowF (nearF rows) (tiesL rows) = none) : NoRow (tied rows) (rngI rows.length) := by
  intro a ha b hb c hc d hd ⟨r1, r2, r3, r4, r5, r6⟩
  rw [rng_in] at ha hb hc hd
  have ac : a ≠ c := fun e => by subst e; rw [r3] at r5; cases r5
  have db : d ≠ b := fun e => by subst e; rw [r1] at r5; cases r5
  have bc : b ≠ c := fun e => by subst e; rw [tied_self G hb.1] at r2; cases r2
  have tm : ∀ x y : Int, 0 ≤ x ∧ x < rows.length → 0 ≤ y ∧ y < rows.length → x < y → tied rows x y = true → (x, y) ∈ tiesL rows := fun x y hx hy lt t => (ties_iff G).mpr ⟨x.toNat, y.toNat, by rw [Int.toNat_of_nonneg hx.1, Int.toNat_of_nonneg hy.1], by omega, by rw [← tied_iff, Int.toNat_of_nonneg hx.1, Int.toNat_of_nonneg hy.1]; exact t⟩
  have sy := fun {x y : Int} (hx : 0 ≤ x ∧ x < rows.length) (hy : 0 ≤ y ∧ y < rows.length) => tied_sym G hx hy
  have fa : a ∈ endsF (nearF rows) b c := in_ends G (by rw [sy hb ha]; exact r1) ac (by rw [sy hc ha]; exact r4)
  have fd : d ∈ endsF (nearF rows) c b := in_ends G r3 db r6
  rcases Int.lt_or_gt_of_ne bc with lt | lt
  · exact row_at G (tm b c hb hc lt r2) fa fd r5 h
  · exact row_at G (tm c b hc hb lt (by rw [sy hc hb]; exact r2)) fd fa (by rw [sy hd ha]; exact r5) h
/-- t is the tree of the web -/
structure TreeW (rows : List (List Int)) (t : Tr) : Prop where
  form : t.form
  pts : t.pts.Perm (rngI rows.length)
  tie : ∀ a ∈ rngI rows.length, ∀ b ∈ rngI rows.length, tied rows a b = t.tie a b
theorem rng_inc (n : Nat) : (rngI n).Pairwise (· < ·) := by
  unfold rngI
  rw [List.pairwise_map]
  exact List.pairwise_lt_range.imp fun h => by omega
theorem TreeW.nd {t : Tr} (h : TreeW rows t) : t.pts.Nodup := h.pts.nodup_iff.mpr (rng_nd _)
theorem TreeW.no {t : Tr} (h : TreeW rows t) : NoRow t.tie (rngI rows.length) := (tie_norow t h.nd).sub fun x hx => h.pts.mem_iff.mpr hx
theorem TreeW.none {t : Tr} (G : Good rows) (h : TreeW rows t) : rowF (nearF rows) (tiesL rows) = none := by
  cases cc : rowF (nearF rows) (tiesL rows) with
  | none => rfl
  | some q =>
    obtain ⟨a, b, c, d⟩ := q
    obtain ⟨i, r⟩ := row_sound G cc
    have ha := rng_in.mpr (i a (by simp))
    have hb := rng_in.mpr (i b (by simp))
    have hc := rng_in.mpr (i c (by simp))
    have hd := rng_in.mpr (i d (by simp))
    obtain ⟨r1, r2, r3, r4, r5, r6⟩ := r
    rw [h.tie _ ha _ hb] at r1
    rw [h.tie _ hb _ hc] at r2
    rw [h.tie _ hc _ hd] at r3
    rw [h.tie _ ha _ hc] at r4
    rw [h.tie _ ha _ hd] at r5
    rw [h.tie _ hb _ hd] at r6
    exact absurd ⟨r1, r2, r3, r4, r5, r6⟩ (h.no a ha b hb c hc d hd)
theorem near_tied (G : Good rows) (a b : Int) : tied (nearF rows) a b = tied rows a b := by
  unfold tied
  rw [near_get]
  simp only [srt_mem]
end
mutual
theorem tie_self : ∀ t : Tr, t.pts.Nodup → ∀ a ∈ t.pts, t.tie a a = false
  | .pt n, _ => fun a _ => by rw [Tr.tie]
  | .nd j ts, nd => by
    rw [Tr.pts] at nd
    have ih := ties_self ts nd
    intro a ha
    rw [Tr.pts] at ha
    obtain ⟨t, ht, at'⟩ := mem_ptsL.mp ha
    rw [Tr.tie, tieL_in nd ht at' at']
    exact ih t ht a at'
theorem ties_self : ∀ ts : List Tr, (ptsL ts).Nodup → ∀ t ∈ ts, ∀ a ∈ t.pts, t.tie a a = false
  | [], _ => fun _ h => nomatch h
  | t :: ts, nd => by
    rw [ptsL] at nd
    have h0 := tie_self t (List.nodup_append.mp nd).1
    have h1 := ties_self ts (List.nodup_append.mp nd).2.1
    intro u hu
    rcases List.mem_cons.mp hu with e | hu
    · rw [e]; exact h0
    · exact h1 u hu
end

/-- a web without a row has a tree -/
theorem treeW_ex {rows : List (List Int)} (G : Good rows) (h : rowF (nearF rows) (tiesL rows) = none) : TreeW rows (treeF (tied rows) 30 (rngI rows.length)) := by
  let R : Int → Int → Bool := fun a b => if a ∈ rngI rows.length ∧ b ∈ rngI rows.length then tied rows a b else false
  have sym : ∀ a b, R a b = R b a := fun a b => by
    show (if _ then _ else _) = (if _ then _ else _)
    by_cases c : a ∈ rngI rows.length ∧ b ∈ rngI rows.length
    · rw [if_pos c, if_pos ⟨c.2, c.1⟩, tied_sym G (rng_in.mp c.1) (rng_in.mp c.2)]
    · rw [if_neg c, if_neg fun z => c ⟨z.2, z.1⟩]
  have ag : ∀ a ∈ rngI rows.length, ∀ b ∈ rngI rows.length, tied rows a b = R a b := fun a ha b hb => by
    show _ = (if _ then _ else _)
    rw [if_pos ⟨ha, hb⟩]
  have no : NoRow R (rngI rows.length) := fun a ha b hb c hc e he ⟨r1, r2, r3, r4, r5, r6⟩ => by
    rw [← ag _ ha _ hb] at r1
    rw [← ag _ hb _ hc] at r2
    rw [← ag _ hc _ he] at r3
    rw [← ag _ ha _ hc] at r4
    rw [← ag _ ha _ he] at r5
    rw [← ag _ hb _ he] at r6
    exact row_none G h a ha b hb c hc e he ⟨r1, r2, r3, r4, r5, r6⟩
  have ln : (rngI rows.length).length = rows.length := by simp [rngI]
  have few := G.few
  have one := G.one
  have ne : rngI rows.length ≠ [] := fun e => by rw [e] at ln; simp at ln; omega
  rw [treeF_congr 30 _ ag]
  have ok := treeF_ok sym 30 (rngI rows.length) (by omega) ne (rng_inc _) no
  have nd : (treeF R 30 (rngI rows.length)).pts.Nodup := ok.pts.nodup_iff.mpr (rng_nd _)
  refine ⟨ok.form, ok.pts, fun a ha b hb => ?_⟩
  by_cases e : a = b
  · subst e
    rw [tied_self G (rng_in.mp ha).1, tie_self _ nd _ (ok.pts.mem_iff.mpr ha)]
  · rw [ag _ ha _ hb, ok.tie a ha b hb e]
def spTreeOf (A : Adr) : Sp := fun vs H Q E => ∃ (p l : Addr) (ds : List Addr) (rows : List (List Int)), vs = [.ref p] ∧ WebAt A.c_Web H p l ds rows ∧ Good rows ∧
  (∀ t, TreeW rows t → ∀ v H', Ex H H' → ToldAt H' v t → Q v H') ∧
  ∀ a b c d, rowF (nearF rows) (tiesL rows) = some (a, b, c, d) → ∀ r dd H', H dd = none → Ex H H' → H' r = some (.tup [.int a, .int b, .int c, .int d]) → H' dd = some (.xd (rowX (.ref r))) → E (.ref A.c_NoTree) (some dd) H'
section
variable {P : Program} {w : World} {K : PySem.W.Frag} {mg : Str → Option Value} {base : Heap} {A : Adr}
theorem ok_tree_of (T : Txt K mg A) : FnOk P w K mg base (L2.CX P w) 33 A.a_tree_of A.d_tree_of ["web"] (spTreeOf A) := by
  refine T.F_tree_of.okX sc_tree_of (fun vs H Q E h => ?_) (fun cdv C outer s H vs Q E hr h => ?_)
  · obtain ⟨p, l, ds, rows, rfl, _⟩ := h
    rfl
  · obtain ⟨p, l, ds, rows, rfl, W, G, k1, k2⟩ := h
    have hu := hu_of hr
    obtain ⟨⟨dx, w1⟩, w2, w3, w4, w5⟩ := id W
    refine ⟨_, (pss_cons (ps_set (i := 1) sc_tree_of.nd rfl (Or.inl rfl) (pe_call (ok_row_in T) (hr.mono (by omega)) rfl T.g_row_in T.k_row_in T.b_row_in .nil pass0 (pa_cons (pv 0) pa_nil)))
  (pss_cons (ps_if (pt_cmpR op_notN (pv 1) pe_non (nomark _))
    (pss_one (ps_raiseNt rfl T.nt hr (takes_of rfl rfl rfl rfl) (pa_cons (pv 1) pa_nil)))
    pss_nil)
  (pss_one (ps_ret (pe_call (ok_told_of T 30) (hr.mono (by omega)) rfl T.g_told_of T.k_told_of T.b_told_of .nil pass0 (pa_cons (pe_call (ok_near_each T) (hr.mono (by omega)) rfl T.g_near_each T.k_near_each T.b_near_each .nil pass0 (pa_cons (pv 0) pa_nil)) (pa_cons (pe_lstR rfl (by rfl) T.list (by rfl) T.range (pe_meth0 (pv 0) T.cl_Web T.m_Web_many (ok_Web_many T) (hr.mono (by omega)) T.b_Web_many .nil pass0)) pa_nil))))))), ?_⟩
    have few := G.few
    cases rf : rowF (nearF rows) (tiesL rows) with
    | some q =>
      obtain ⟨a, b, c, d⟩ := q
      refine seq_by (fun σ1 H1 => ∃ r, σ1 = [some (.ref p), some (.ref r)] ∧ Ex H H1 ∧ H1 r = some (.tup [.int a, .int b, .int c, .int d])) (fun N hN => ?_) (fun s1 H1 m => ?_)
      · simp [L2.start, and_assoc]
        refine ⟨p, l, ds, rows, rfl, W, G, fun z => (by rw [rf] at z; cases z), fun a' b' c' d' z r H1 nr e1 h1 => ?_⟩
        rw [rf] at z
        cases z
        exact hN _ _ ⟨r, rfl, e1, h1⟩
      obtain ⟨r, rfl, e1, h1⟩ := m
      simp
      exact fun dd nd => k2 a b c d rf r dd _ (fresh_back e1 nd) (e1.trans (Ex.new nd)) ((Ex.new nd) _ _ h1) upd_same
    | none =>
      have Z := treeW_ex G rf
      have tw := treeF_is (R := tied rows) (n := 30) Z.form (rng_inc _) Z.pts (by simp [rngI]; omega) Z.tie
      generalize treeF (tied rows) 30 (rngI rows.length) = t at Z tw
      refine seq_by (fun σ1 H1 => σ1 = [some (.ref p), some .non] ∧ Ex H H1) (fun N hN => ?_) (fun s1 H1 m => ?_)
      · simp [L2.start, and_assoc]
        exact ⟨p, l, ds, rows, rfl, W, G, fun _ H' e => hN _ _ ⟨rfl, e⟩, fun a b c d z => by rw [rf] at z; cases z⟩
      obtain ⟨rfl, e1⟩ := m
      refine seq_by (fun σ1 H2 => σ1 = [some (.ref p), some .non] ∧ Ex H H2) (fun N hN => ?_) (fun s1 H2 m => ?_)
      · simp
        exact hN _ _ ⟨rfl, e1⟩
      obtain ⟨rfl, e2⟩ := m
      simp [and_assoc]
      refine ⟨p, l, ds, rows, rfl, W.up e2, G, fun g H3 n3 e3 h3 => ?_⟩
      simp [and_assoc, (e2.trans e3) _ _ w1, spMany, web_ex (W.up (e2.trans e3))]
      refine ⟨rows.length, rfl, by omega, fun L H4 n4 e4 h4 => ?_⟩
      have hL : LsI H4 L (rngI rows.length) := h4
      have ln : (rngI rows.length).length = rows.length := by simp [rngI]
      have nl : (nearF rows).length = rows.length := by simp [nearF]
      have ag : ∀ a ∈ rngI rows.length, ∀ b ∈ rngI rows.length, tied (nearF rows) a b = t.tie a b := fun a ha b hb => by rw [near_tied G]; exact Z.tie a ha b hb
      refine ⟨g, L, nearF rows, rngI rows.length, t.tie, rfl, h3.up e4, hL, fun e => ?_, rng_inc _, fun x hx => by rw [nl]; exact rng_in.mp hx, by omega, by omega, tie_sym t, Z.no, ag, fun v H5 e5 h5 => k1 t Z v H5 (e2.trans (e3.trans (e4.trans e5))) ?_⟩
      · have one := G.one
        rw [e] at ln
        simp at ln
        omega
      · rw [treeF_is Z.form (rng_inc _) Z.pts (by omega) fun a _ b _ => rfl] at h5
        exact h5
end
end Jk

namespace Jk
open PySem L2 Evl

/-! ## the law's own: a tree in its form -/
def spLWhole : Sp := fun vs H Q _ => ∃ n : Int, vs = [.int n] ∧ Q (.bl true) H
theorem parts_few2 {j : Bool} : ∀ {ts : List Tr}, (∀ t ∈ ts, t.form ∧ t.wd ≠ some j) → ts.length ≤ (ptsL ts).length
  | [], _ => Nat.zero_le _
  | t :: ts, h => by
    have h1 := parts_few2 fun u hu => h u (List.mem_cons_of_mem _ hu)
    have h2 := List.length_pos_iff.mpr (form_some (h t List.mem_cons_self).1)
    rw [ptsL, List.length_append, List.length_cons]
    omega
theorem part_len {ts : List Tr} {u : Tr} (h : u ∈ ts) : u.pts.length ≤ (ptsL ts).length := by
  have : u.pts.Sublist (ptsL ts) := by
    rw [ptsL_flat, List.flatMap_def]
    exact List.sublist_flatten_of_mem (List.mem_map_of_mem h)
  exact this.length_le
theorem wd_in (j : Bool) : inV (.str (wdS j)) [.str "side", .str "join"] = true := by cases j <;> decide +kernel
def spForm (d : Nat) : Sp := fun vs H Q _ => ∃ (v : V) (t : Tr), vs = [v] ∧ ToldAt H v t ∧ t.dep < d ∧ t.form ∧ t.pts.length ≤ 30 ∧ ∀ H', Ex H H' → Q (.bl true) H'
section
variable {P : Program} {w : World} {K : PySem.W.Frag} {mg : Str → Option Value} {base : Heap} {A : Adr}
theorem ok_l_whole (T : Txt K mg A) : FnOk P w K mg base CX0 1 A.a_l_whole A.d_l_whole ["_law_thing"] spLWhole := by
  refine T.F_l_whole.ok sc_l_whole (fun vs H Q E h => ?_) (fun cdv C outer s H vs Q E hr h => ?_)
  · obtain ⟨n, rfl, _⟩ := h
    rfl
  · obtain ⟨n, rfl, k⟩ := h
    refine ⟨_, (pss_one (ps_ret (pe_and (pe_callB call_isJ (by rfl) T.isinstance (by decide +kernel) (pa_cons (pv 0) (pa_cons (pe_bltn (v := .ty "int") (u := .type "int") (by rfl) T.int (by decide +kernel) rfl) pa_nil))) (pe_one (pe_not (pe_callB call_isJ (by rfl) T.isinstance (by decide +kernel) (pa_cons (pv 0) (pa_cons (pe_bltn (v := .ty "bool") (u := .type "bool") (by rfl) T.bool (by decide +kernel) rfl) pa_nil)))))))), ?_⟩
    simp [L2.start]
    exact k
theorem none_spForm {f : Addr} {fd : FuncData} {ps : List Str} {k : Nat} : FnOk P w K mg base CX0 k f fd ps (spForm 0) :=
  ⟨fun vs H Q E ⟨_, _, _, _, h, _⟩ => absurd h (Nat.not_lt_zero _), fun A outer s H args us vs Q E _ _ _ _ ⟨_, _, _, _, h, _⟩ => absurd h (Nat.not_lt_zero _)⟩
theorem step_l_form (T : Txt K mg A) {d : Nat} (ih : FnOk P w K mg base CX0 (d + 2) A.a_l_form A.d_l_form ["_law_told"] (spForm d)) : FnOk P w K mg base CX0 (d + 3) A.a_l_form A.d_l_form ["_law_told"] (spForm (d + 1)) := by
  refine T.F_l_form.ok sc_l_form (fun vs H Q E h => ?_) (fun cdv C outer s H vs Q E hr h => ?_)
  · obtain ⟨v, t, rfl, _⟩ := h
    rfl
  · obtain ⟨v, t, rfl, hv, hd, hf, few, k⟩ := h
    have hu := hu_of hr
    refine ⟨_, (pss_cons (ps_if (pt_not (pt_val (pe_callB call_isJ (by rfl) T.isinstance (by decide +kernel) (pa_cons (pv 0) (pa_cons (pe_bltn (v := .ty "tuple") (u := .type "tuple") (by rfl) T.tuple (by decide +kernel) rfl) pa_nil)))))
    (pss_one (ps_ret (pe_call (ok_l_whole T) (hr.mono (by omega)) rfl T.g_l_whole T.k_l_whole T.b_l_whole .nil pass0 (pa_cons (pv 0) pa_nil))))
    pss_nil)
  (pss_cons (ps_if (PW.pt (pw_or (pt_cmpR op_ne (pe_callB call_lenT (by rfl) T.len (by decide +kernel) (pa_cons (pv 0) pa_nil)) pe_int (nomark _)) (pw_or (pt_cmpR op_notIn_seq (pe_ix ix_tupJ (pv 0) pe_int (fun _ _ => rfl)) (pe_tupJ (pa_cons pe_str (pa_cons pe_str pa_nil))) (by rfl)) (pw_or (pt_not (pt_val (pe_callB call_isJ (by rfl) T.isinstance (by decide +kernel) (pa_cons (pe_ix ix_tupJ (pv 0) pe_int (fun _ _ => rfl)) (pa_cons (pe_bltn (v := .ty "tuple") (u := .type "tuple") (by rfl) T.tuple (by decide +kernel) rfl) pa_nil))))) (pw_or1 (pt_cmpR op_lt (pe_callB call_lenT (by rfl) T.len (by decide +kernel) (pa_cons (pe_ix ix_tupJ (pv 0) pe_int (fun _ _ => rfl)) pa_nil)) pe_int (nomark _)))))))
    (pss_one (ps_ret pe_bl))
    pss_nil)
  (pss_cons (ps_if (pt_not (pt_val (pe_callB (cr_all rfl) (by rfl) T.all (by decide +kernel) (pa_cons (pe_lc (own := [("_law_piece", 2)]) rfl sc_l_form.nd (pi_tup (pe_ix ix_tupJ (pv 0) pe_int (fun _ _ => rfl))) (blkOk_by (own := [("_law_piece", 2)]) (N := ["_law_told", "_law_leasts", "_law_piece"]) (sc := defScope s_l_form) (by decide +kernel)) (fun _ _ _ _ _ => by exact (pg_name (i := 2) sc_l_form.nd rfl (Or.inl rfl))) (fun _ _ _ _ _ => by exact pts_nil) (fun _ _ _ _ _ => by exact (pe_call ih (hr.mono (by omega)) rfl T.g_l_form T.k_l_form T.b_l_form .nil pass0 (pa_cons (pv 2) pa_nil)))) pa_nil))))
    (pss_one (ps_ret pe_bl))
    pss_nil)
  (pss_cons (ps_if (pt_cmpR (op_neD hr.units) (pe_lc (own := [("_law_piece", 2)]) rfl sc_l_form.nd (pi_tup (pe_ix ix_tupJ (pv 0) pe_int (fun _ _ => rfl))) (blkOk_by (own := [("_law_piece", 2)]) (N := ["_law_told", "_law_leasts", "_law_piece"]) (sc := defScope s_l_form) (by decide +kernel)) (fun _ _ _ _ _ => by exact (pg_name (i := 2) sc_l_form.nd rfl (Or.inl rfl))) (fun _ _ _ _ _ => by exact (pts_one (PW.pt (pw_and (pt_val (pe_callB call_isJ (by rfl) T.isinstance (by decide +kernel) (pa_cons (pv 2) (pa_cons (pe_bltn (v := .ty "tuple") (u := .type "tuple") (by rfl) T.tuple (by decide +kernel) rfl) pa_nil)))) (pw_and1 (pt_cmpR op_eq (pe_ix ix_tupJ (pv 2) pe_int (fun _ _ => rfl)) (pe_ix ix_tupJ (pv 0) pe_int (fun _ _ => rfl)) (nomark _))))))) (fun _ _ _ _ _ => by exact (pv 2))) (pe_lstJ pa_nil) (nomark _))
    (pss_one (ps_ret pe_bl))
    pss_nil)
  (pss_cons (ps_setLc (i := 1) (own := [("_law_piece", 2)]) rfl sc_l_form.nd rfl rfl (sw_true rfl rfl rfl (by decide +kernel)) (pi_tup (pe_ix ix_tupJ (pv 0) pe_int (fun _ _ => rfl))) (blkOk_by (own := [("_law_piece", 2)]) (N := ["_law_told", "_law_leasts", "_law_piece"]) (sc := defScope s_l_form) (by decide +kernel)) (fun _ _ _ _ _ => by exact (pg_name (i := 2) sc_l_form.nd rfl (Or.inl rfl))) (fun _ _ _ _ _ => by exact pts_nil) (fun _ _ _ _ _ => by exact (pe_call (ok_l_least T) (hr.mono (by omega)) rfl T.g_l_least T.k_l_least T.b_l_least .nil pass0 (pa_cons (pv 2) pa_nil))))
  (pss_one (ps_ret (pe_cmpR (op_eqI hr.units) (pv 1) (pe_callB call_sortJ (by rfl) T.sorted (by decide +kernel) (pa_cons (pv 1) pa_nil)) (nomark _))))))))), ?_⟩
    rcases told_kind hv with ⟨m, rfl, rfl⟩ | ⟨j, ts, a, b, vs, rfl, rfl, h1, h2, h3⟩
    · simp [L2.start, and_assoc]
      exact ⟨m, rfl, k _ (Ex.refl _)⟩
    · have ft := hf
      rw [Tr.form] at ft
      have fts := formL_iff.mp ft.2.2
      have l3 := h3.len
      rw [Tr.dep] at hd
      rw [Tr.pts] at few
      have vl : vs.length ≤ 30 := by
        have := parts_few2 fts
        omega
      refine seq_by (fun σ1 H1 => σ1 = [some (.ref a), none, none] ∧ H = H1) (fun N hN => ?_) (fun s1 H1 m => ?_)
      · simp [L2.start, tyN_tup h1, h1]
        exact hN _ _ ⟨rfl, rfl⟩
      obtain ⟨rfl, rfl⟩ := m
      refine seq_by (fun σ1 H1 => σ1 = [some (.ref a), none, none] ∧ Ex H H1) (fun N hN => ?_) (fun s1 H1 m => ?_)
      · simp [tyN_tup h1, h1, h2, and_assoc, jLenT]
        intro p1 H1 n1 e1 g1
        refine ⟨p1, _, rfl, .inr (.inl (.inl g1)), rfl, rfl, ?_⟩
        dsimp only
        rw [wd_in]
        exact .inl ⟨rfl, _, e1 _ _ h1, _, rfl, "tuple", tyN_tup (e1 _ _ h2), .inr ⟨rfl, _, e1 _ _ h1, _, rfl, b, rfl, _, e1 _ _ h2, .inl ⟨by omega, hN _ _ ⟨rfl, e1⟩⟩⟩⟩
      obtain ⟨rfl, e1⟩ := m
      refine seq_by (fun σ1 H2 => σ1 = [some (.ref a), none, none] ∧ Ex H H2) (fun N hN => ?_) (fun s1 H2 m => ?_)
      · refine ⟨_, rfl, a, _, 1, _, rfl, rfl, e1 _ _ h1, by decide, rfl, b, rfl, ⟨_, .inl (.inl (e1 _ _ h2))⟩, fun D hD => lc_tupS (xs := vs) (fun i y _ => y = (fun _ => V.bl true) i) stay_val hD (.inl (.inl (e1 _ _ h2))) (by omega) (fun i x H2 Nn hx e hH hN' => ?_) (fun acc H2 e h4 hlen hall => ?_)⟩
        · obtain ⟨u, hu', hat⟩ := h3.get hx
          have um := List.mem_of_getElem? hu'
          have := depL_le um
          have := part_len um
          simp [wipe]
          exact ⟨x, u, rfl, hat.up (e1.trans e), by omega, (fts u um).1, by omega, fun H3 e3 => hN' _ _ e3 rfl⟩
        · have ea : acc = (List.replicate acc.length true).map V.bl := by
            apply List.ext_getElem?
            intro i
            rw [List.getElem?_map]
            cases c : acc[i]? with
            | none => rw [List.getElem?_eq_none (by rw [List.length_replicate]; exact List.getElem?_eq_none_iff.mp c)]; rfl
            | some y =>
              have lt := lt_of_get c
              rw [hall i y c, List.getElem?_replicate, if_pos lt]
              rfl
          simp
          refine ⟨D, List.replicate acc.length true, rfl, .inl (.inl (by rw [← ea]; exact h4)), .inr ⟨by simp, hN _ _ ⟨rfl, e1.trans e⟩⟩⟩
      obtain ⟨rfl, e2⟩ := m
      refine seq_by (fun σ1 H3 => σ1 = [some (.ref a), none, none] ∧ Ex H H3) (fun N hN => ?_) (fun s1 H3 m => ?_)
      · refine ⟨_, rfl, a, _, 1, _, rfl, rfl, e2 _ _ h1, by decide, rfl, b, rfl, ⟨_, .inl (.inl (e2 _ _ h2))⟩, fun D hD => lc_it (walk_tup (xs := vs)) (g := gName 2) (tt := tAnd (tB (tCB jIs (tCons (tVar 2) (tCons (tC (V.ty "tuple")) tNil)))) (tTest (tOp rEq (tOp jIxT (tVar 2) (tC (V.int 0))) (tOp jIxT (tVar 0) (tC (V.int 0)))))) (te := tVar 2) (fun i H4 => Ex H2 H4 ∧ H4 D = some (.lst [])) ⟨Ex.new hD, upd_same⟩ (fun i H4 _ c => .inl (.inl (c.1 _ _ (e2 _ _ h2)))) (fun i x H4 H5 hi c y => ?_) (fun H4 c => ?_)⟩
        · obtain ⟨rfl, hx⟩ := y
          obtain ⟨u, hu', hat⟩ := h3.get hx
          have um := List.mem_of_getElem? hu'
          have hat5 := hat.up (e2.trans c.1)
          have h15 := (e2.trans c.1) _ _ h1
          have wn := (fts u um).2
          rcases told_kind hat5 with ⟨m, rfl, rfl⟩ | ⟨j2, us, a2, b2, ws, rfl, rfl, g1, g2, g3⟩
          · simp [wipe]
            exact c
          · have nj : ¬ wdS j2 = wdS j := fun z => wn (by rw [Tr.wd]; cases j2 <;> cases j <;> first | rfl | exact absurd z (by decide +kernel))
            simp [wipe, tyN_tup g1, g1, h15, nj]
            exact c
        · obtain ⟨e, hD4⟩ := c
          refine ⟨by simp, fun p5 H5 n5 e5 h5 => ⟨.list [], .list [], .lst (.inl (.inl (e5 _ _ hD4))) .nil, .lst (.inl (.inl h5)) .nil, rfl, rfl, false, rfl, ?_⟩⟩
          exact hN _ _ ⟨rfl, e2.trans (e.trans e5)⟩
      obtain ⟨rfl, e3⟩ := m
      refine seq_by (fun σ1 H4 => ∃ q, σ1 = [some (.ref a), some (.ref q), none] ∧ Ex H H4 ∧ LsI H4 q (ts.map Tr.least)) (fun N hN => ?_) (fun s1 H4 m => ?_)
      · refine ⟨_, rfl, a, _, 1, _, rfl, rfl, e3 _ _ h1, by decide, rfl, b, rfl, ⟨_, .inl (.inl (e3 _ _ h2))⟩, fun D hD => lc_tupS (xs := vs) (fun i y _ => y = (fun i => V.int ((ts.map Tr.least).getD i 0)) i) stay_val hD (.inl (.inl (e3 _ _ h2))) (by omega) (fun i x H4 Nn hx e hH hN' => ?_) (fun acc H4 e h4 hlen hall => ?_)⟩
        · obtain ⟨u, hu', hat⟩ := h3.get hx
          have um := List.mem_of_getElem? hu'
          simp [wipe]
          refine ⟨x, u, rfl, hat.up (e3.trans e), (fts u um).1, hN' _ _ (Ex.refl _) ?_⟩
          simp [hu']
        · have ea : acc = (ts.map Tr.least).map V.int := by
            apply List.ext_getElem?
            intro i
            rw [List.getElem?_map]
            cases c : acc[i]? with
            | none => rw [List.getElem?_eq_none (by have := List.getElem?_eq_none_iff.mp c; rw [List.length_map]; omega)]; rfl
            | some y =>
              have lt := lt_of_get c
              have g : (ts.map Tr.least)[i]? = some ((ts.map Tr.least)[i]'(by rw [List.length_map]; omega)) := List.getElem?_eq_getElem _
              rw [hall i y c, g]
              simp only [List.getD_eq_getElem?_getD, g]
              rfl
          exact hN _ _ ⟨D, rfl, e3.trans e, by rw [ea] at h4; exact h4⟩
      obtain ⟨q, rfl, e4, hq⟩ := m
      simp [and_assoc]
      refine ⟨_, hq, by rw [List.length_map]; omega, fun p5 H5 n5 e5 h5 => ⟨_, e5 _ _ hq, _, h5, ?_⟩⟩
      rw [srt_fix (ft.2.1.imp fun h => by omega), decide_eq_true rfl]
      exact k _ (e4.trans e5)
theorem ok_l_form (T : Txt K mg A) : ∀ d : Nat, FnOk P w K mg base CX0 (d + 2) A.a_l_form A.d_l_form ["_law_told"] (spForm d)
  | 0 => none_spForm
  | d + 1 => step_l_form T (ok_l_form T d)
end
end Jk

namespace Jk
open PySem L2 Evl

/-! ## the law's own: the tree of a web -/
theorem treeW_few {rows : List (List Int)} {t : Tr} (G : Good rows) (Z : TreeW rows t) : t.pts.length ≤ 30 ∧ t.dep ≤ 29 ∧ ∀ n ∈ t.pts, 0 ≤ n ∧ n ≤ 29 := by
  have l : t.pts.length = rows.length := by rw [Z.pts.length_eq]; simp [rngI]
  have few := G.few
  have := t.dep_lt Z.form
  refine ⟨by omega, by omega, fun n hn => ?_⟩
  have := rng_in.mp (Z.pts.mem_iff.mp hn)
  omega
theorem treeW_ties {rows : List (List Int)} {t : Tr} (G : Good rows) (Z : TreeW rows t) : t.ties.Perm (tiesL rows) := by
  have nd := Z.nd
  have tt : ∀ {a b : Int}, a ∈ t.pts → b ∈ t.pts → a ≠ b → (mmI a b ∈ t.ties ↔ tied rows a b = true) := fun ha hb ne => by
    rw [ties_tie t nd ne ha hb, Z.tie _ (Z.pts.mem_iff.mp ha) _ (Z.pts.mem_iff.mp hb)]
  refine (List.perm_ext_iff_of_nodup (ties_nodup t nd) (ties_nd rows)).mpr fun p => ?_
  rw [ties_iff G]
  constructor
  · intro hp
    obtain ⟨c, hc, e, he, rfl⟩ := ties_in t p hp
    have ne : c ≠ e := fun z => by
      subst z
      have := ties_lt t nd _ hp
      simp [mmI] at this
    have ic := rng_in.mp (Z.pts.mem_iff.mp hc)
    have ie := rng_in.mp (Z.pts.mem_iff.mp he)
    have go : ∀ x y : Int, x ∈ t.pts → y ∈ t.pts → x < y → 0 ≤ x → 0 ≤ y → mmI x y ∈ t.ties → ∃ i j : Nat, mmI x y = ((i : Int), (j : Int)) ∧ i < j ∧ tN rows i j := fun x y hx hy lt x0 y0 h => by
      have em : mmI x y = (x, y) := by unfold mmI; rw [Int.min_eq_left (by omega), Int.max_eq_right (by omega)]
      refine ⟨x.toNat, y.toNat, by rw [em]; exact Prod.ext (by show x = _; omega) (by show y = _; omega), by omega, ?_⟩
      rw [← tied_iff, Int.toNat_of_nonneg x0, Int.toNat_of_nonneg y0]
      exact (tt hx hy (by omega)).mp h
    rcases Int.lt_or_gt_of_ne ne with z | z
    · exact go c e hc he z ic.1 ie.1 hp
    · rw [mm_comm] at hp ⊢
      exact go e c he hc z ie.1 ic.1 hp
  · rintro ⟨i, j, rfl, hij, h⟩
    have lt := G.lt h
    have hi : (i : Int) ∈ t.pts := Z.pts.mem_iff.mpr (rng_in.mpr (by omega))
    have hj : (j : Int) ∈ t.pts := Z.pts.mem_iff.mpr (rng_in.mpr (by omega))
    have em : mmI (i : Int) (j : Int) = ((i : Int), (j : Int)) := by unfold mmI; rw [Int.min_eq_left (by omega), Int.max_eq_right (by omega)]
    have := (tt hi hj (by omega)).mpr ((tied_iff rows i j).mpr h)
    rwa [em] at this
def spIsTree : Sp := fun vs H Q _ => ∃ (v : V) (t : Tr) (q : Addr) (rows : List (List Int)) (n : Int) (prs : List (Int × Int)), vs = [v, .int n, .ref q] ∧ ToldAt H v t ∧ Good rows ∧ TreeW rows t ∧ Rel rows n prs ∧ LsP H q prs ∧ ∀ H', Ex H H' → Q (.bl true) H'
section
variable {P : Program} {w : World} {K : PySem.W.Frag} {mg : Str → Option Value} {base : Heap} {A : Adr}
theorem ok_l_is_tree (T : Txt K mg A) : FnOk P w K mg base CX0 35 A.a_l_is_tree A.d_l_is_tree ["_law_told", "_law_many", "_law_ties_here"] spIsTree := by
  refine T.F_l_is_tree.ok sc_l_is_tree (fun vs H Q E h => ?_) (fun cdv C outer s H vs Q E hr h => ?_)
  · obtain ⟨v, t, q, rows, n, prs, rfl, _⟩ := h
    rfl
  · obtain ⟨v, t, q, rows, n, prs, rfl, hv, G, Z, R, hq, k⟩ := h
    obtain ⟨few, dep, inr⟩ := treeW_few G Z
    have rn := R.n
    subst rn
    refine ⟨_, (pss_cons (ps_if (PW.pt (pw_or (pt_not (pt_val (pe_call (ok_l_form T 31) (hr.mono (by omega)) rfl T.g_l_form T.k_l_form T.b_l_form .nil pass0 (pa_cons (pv 0) pa_nil)))) (pw_or1 (pt_cmpR (op_neI hr.units) (pe_callB call_sortJ (by rfl) T.sorted (by decide +kernel) (pa_cons (pe_call (ok_l_points T 31) (hr.mono (by omega)) rfl T.g_l_points T.k_l_points T.b_l_points .nil pass0 (pa_cons (pv 0) pa_nil)) pa_nil)) (pe_lstR rfl (by rfl) T.list (by rfl) T.range (pv 1)) (nomark _)))))
    (pss_one (ps_ret pe_bl))
    pss_nil)
  (pss_one (ps_ret (pe_cmpR (op_eqP hr.units) (pe_callB call_sortP (by rfl) T.sorted (by decide +kernel) (pa_cons (pe_call (ok_l_ties T 31) (hr.mono (by omega)) rfl T.g_l_ties T.k_l_ties T.b_l_ties .nil pass0 (pa_cons (pv 0) pa_nil)) pa_nil)) (pe_callB call_sortP (by rfl) T.sorted (by decide +kernel) (pa_cons (pv 2) pa_nil)) (nomark _))))), ?_⟩
    refine seq_by (fun σ1 H1 => σ1 = [some v, some (.int (rows.length : Int)), some (.ref q)] ∧ Ex H H1) (fun N hN => ?_) (fun s1 H1 m => ?_)
    · simp [L2.start, and_assoc]
      refine ⟨v, t, rfl, hv, by omega, Z.form, few, fun H1 e1 => .inr ⟨rfl, v, t, rfl, hv.up e1, by omega, by omega, fun q2 H2 n2 e2 h2 => ?_⟩⟩
      simp [-List.length_map]
      refine ⟨t.pts, h2, by omega, fun q3 H3 n3 e3 h3 => ⟨rows.length, rfl, by have := G.few; omega, fun q4 H4 n4 e4 h4 => ⟨_, e4 _ _ h3, _, h4, ?_⟩⟩⟩
      have es : srt t.pts = (List.range rows.length).map fun (i : Nat) => (i : Int) := by
        rw [srt_of_perm Z.pts]
        exact srt_fix ((rng_inc rows.length).imp fun h => by omega)
      exact .inl ⟨es, hN _ _ ⟨rfl, e1.trans (e2.trans (e3.trans e4))⟩⟩
    obtain ⟨rfl, e1⟩ := m
    simp [and_assoc]
    refine ⟨v, t, rfl, hv.up e1, by omega, by omega, fun q2 H2 n2 e2 h2 => ?_⟩
    simp
    refine ⟨_, h2, fun qs D H3 p3 s3 n3 e3 h3 => ⟨_, hq.up (e1.trans (e2.trans e3)), fun us D2 H4 p4 s4 n4 e4 h4 => ⟨_, h3.up e4, _, h4, ?_⟩⟩⟩
    rw [sorted_ties G R (p3.trans ((treeW_ties G Z).trans (Rel.perm G R).symm)) s3, sorted_ties G R p4 s4, decide_eq_true rfl]
    exact k _ (e1.trans (e2.trans (e3.trans e4)))
end
end Jk

namespace Jk
open PySem L2 Evl
theorem tups_upd {H : Hp} {r : Addr} {o : HO} {us : List Addr} {qs : List (Int × Int)} {xs : List V} (h : TupsAt H us qs) (hr : H r = some (.lst xs)) : TupsAt (upd H r o) us qs :=
  ⟨h.1, fun k t p a b => by
    have g := h.2 k t p a b
    have : t ≠ r := fun e => by rw [e, hr] at g; cases g
    rw [upd_ne this]
    exact g⟩
theorem tups_snoc {H : Hp} {us : List Addr} {qs : List (Int × Int)} {t : Addr} {a b : Int} (h : TupsAt H us qs) (ht : H t = some (.tup [.int a, .int b])) : TupsAt H (us ++ [t]) (qs ++ [(a, b)]) :=
  ⟨by simp [h.1], fun k u p hu hp => by
    rcases app_get hu with ⟨l1, g⟩ | ⟨l1, rfl⟩
    · rw [List.getElem?_append_left (by rw [← h.1]; exact l1)] at hp
      exact h.2 k u p g hp
    · rw [l1, h.1] at hp
      simp at hp
      subst hp
      exact ht⟩
end Jk

namespace Jk
open PySem L2 Evl

/-! ## the law's own: a row of a web -/
def spIsRow : Sp := fun vs H Q _ => ∃ (r q : Addr) (rows : List (List Int)) (n : Int) (prs : List (Int × Int)) (a b c d : Int), vs = [.ref r, .int n, .ref q] ∧ H r = some (.tup [.int a, .int b, .int c, .int d]) ∧ Good rows ∧ Rel rows n prs ∧ LsP H q prs ∧
  (∀ x ∈ [a, b, c, d], 0 ≤ x ∧ x < rows.length) ∧ RowR (tied rows) a b c d ∧ ∀ H', Ex H H' → Q (.bl true) H'
/-- the lesser and the greater of two are a tie of the web just where they are tied -/
theorem mm_tied {rows : List (List Int)} {prs : List (Int × Int)} (G : Good rows) (R : Rel rows (rows.length : Int) prs) {x y : Int} (hx : 0 ≤ x ∧ x < rows.length) (hy : 0 ≤ y ∧ y < rows.length) : ((if y < x then y else x), (if x < y then y else x)) ∈ prs ↔ tied rows x y = true := by
  rw [R.ti]
  rcases Int.lt_trichotomy x y with h | h | h
  · rw [if_neg (by omega), if_pos (by omega)]
    constructor
    · rintro ⟨i, j, e, _, t⟩
      cases e
      exact (tied_iff rows i j).mpr t
    · intro t
      refine ⟨x.toNat, y.toNat, Prod.ext (by show x = _; omega) (by show y = _; omega), by omega, (tied_iff rows _ _).mp ?_⟩
      rw [Int.toNat_of_nonneg hx.1, Int.toNat_of_nonneg hy.1]
      exact t
  · subst h
    rw [if_neg (by omega), tied_self G hx.1]
    constructor
    · rintro ⟨i, j, e, l, _⟩
      cases e
      omega
    · intro z
      cases z
  · rw [if_pos (by omega), if_neg (by omega), tied_sym G hx hy]
    constructor
    · rintro ⟨i, j, e, _, t⟩
      cases e
      exact (tied_iff rows i j).mpr t
    · intro t
      refine ⟨y.toNat, x.toNat, Prod.ext (by show y = _; omega) (by show x = _; omega), by omega, (tied_iff rows _ _).mp ?_⟩
      rw [Int.toNat_of_nonneg hx.1, Int.toNat_of_nonneg hy.1]
      exact t
theorem ne_of_tup {H : Hp} {a b : Addr} {xs ys : List V} (h : H a = some (.tup xs)) (g : H b = some (.lst ys)) : a ≠ b := fun e => by rw [e, g] at h; cases h
/-- the ties that are found among the first m of a row -/
def rowFd (m : Nat) : List (Int × Int) := [(0, 1), (1, 2), (2, 3)].take (m - 1)
def rowIn (m k : Nat) : List (Int × Int) := rowFd m ++ if k = m ∧ 1 ≤ m then [((m : Int) - 1, (m : Int))] else []
theorem rowFd_lex : (rowFd 4).Pairwise lexLe := by
  show List.Pairwise lexLe [(0, 1), (1, 2), (2, 3)]
  simp [lexLe]
section
variable {P : Program} {w : World} {K : PySem.W.Frag} {mg : Str → Option Value} {base : Heap} {A : Adr}
theorem ok_l_is_row (T : Txt K mg A) : FnOk P w K mg base CX0 3 A.a_l_is_row A.d_l_is_row ["_law_row", "_law_many", "_law_ties_here"] spIsRow := by
  refine T.F_l_is_row.ok sc_l_is_row (fun vs H Q E h => ?_) (fun cdv C outer s H vs Q E hr h => ?_)
  · obtain ⟨r, q, rows, n, prs, a, b, c, d, rfl, _⟩ := h
    rfl
  · obtain ⟨r, q, rows, n, prs, a, b, c, d, rfl, h1, G, R, hq, inr, row, k⟩ := h
    have rn := R.n
    subst rn
    refine ⟨_, (pss_cons (ps_if (PW.pt (pw_or (pt_not (pt_val (pe_callB call_isJ (by rfl) T.isinstance (by decide +kernel) (pa_cons (pv 0) (pa_cons (pe_bltn (v := .ty "tuple") (u := .type "tuple") (by rfl) T.tuple (by decide +kernel) rfl) pa_nil))))) (pw_or (pt_cmpR op_ne (pe_callB call_lenT (by rfl) T.len (by decide +kernel) (pa_cons (pv 0) pa_nil)) pe_int (nomark _)) (pw_or1 (pt_not (pt_val (pe_callB (cr_all rfl) (by rfl) T.all (by decide +kernel) (pa_cons (pe_lc (own := [("_law_point", 6)]) rfl sc_l_is_row.nd (pi_tup (pv 0)) (blkOk_by (own := [("_law_point", 6)]) (N := ["_law_row", "_law_many", "_law_ties_here", "_law_found", "_law_at", "_law_before", "_law_point"]) (sc := defScope s_l_is_row) (by decide +kernel)) (fun _ _ _ _ _ => by exact (pg_name (i := 6) sc_l_is_row.nd rfl (Or.inl rfl))) (fun _ _ _ _ _ => by exact pts_nil) (fun _ _ _ _ _ => by exact (pe_call (ok_l_whole T) (hr.mono (by omega)) rfl T.g_l_whole T.k_l_whole T.b_l_whole .nil pass0 (pa_cons (pv 6) pa_nil)))) pa_nil))))))))
    (pss_one (ps_ret pe_bl))
    pss_nil)
  (pss_cons (ps_if (PW.pt (pw_or (pt_cmpR op_lt (pe_lenSetT rfl (by rfl) T.len (by rfl) T.set (pv 0)) pe_int (nomark _)) (pw_or (pt_cmpR op_lt (pe_callB (call_minT rfl hr.u65) (by rfl) T.min (by decide +kernel) (pa_cons (pv 0) pa_nil)) pe_int (nomark _)) (pw_or1 (pt_cmpR op_ge (pe_callB (call_maxT rfl hr.u65) (by rfl) T.max (by decide +kernel) (pa_cons (pv 0) pa_nil)) (pv 1) (nomark _))))))
    (pss_one (ps_ret pe_bl))
    pss_nil)
  (pss_cons (ps_set (i := 3) sc_l_is_row.nd rfl (Or.inl rfl) (pe_lstJ pa_nil))
  (pss_cons (ps_for PassesOwn.never rfl (pi_range1 rfl T.range (pa_cons pe_int pa_nil)) (pg_name (i := 4) sc_l_is_row.nd rfl (.inl rfl))
    (pss_one (ps_for PassesOwn.never rfl (pi_range1 rfl T.range (pa_cons (pv 4) pa_nil)) (pg_name (i := 5) sc_l_is_row.nd rfl (.inl rfl))
        (pss_one (ps_if (pt_cmpR (op_inP hr.u65) (pe_tupJ (pa_cons (pe_callB (call_min2 rfl) (by rfl) T.min (by decide +kernel) (pa_cons (pe_ix ix_tupJ (pv 0) (pv 5) (fun _ _ => rfl)) (pa_cons (pe_ix ix_tupJ (pv 0) (pv 4) (fun _ _ => rfl)) pa_nil))) (pa_cons (pe_callB (call_max2 rfl) (by rfl) T.max (by decide +kernel) (pa_cons (pe_ix ix_tupJ (pv 0) (pv 5) (fun _ _ => rfl)) (pa_cons (pe_ix ix_tupJ (pv 0) (pv 4) (fun _ _ => rfl)) pa_nil))) pa_nil))) (pv 2) (by rfl))
            (pss_one (ps_expr (pe_bmL PySem.F.slot_list_append PySem.F.type_list_append mt_append (pv 3) (pa_cons (pe_tupJ (pa_cons (pv 5) (pa_cons (pv 4) pa_nil))) pa_nil))))
            pss_nil)))))
  (pss_one (ps_ret (pe_cmpR (op_eqP hr.units) (pe_callB call_sortP (by rfl) T.sorted (by decide +kernel) (pa_cons (pv 3) pa_nil)) (pe_lstJ (pa_cons (pe_tupJ (pa_cons pe_int (pa_cons pe_int pa_nil))) (pa_cons (pe_tupJ (pa_cons pe_int (pa_cons pe_int pa_nil))) (pa_cons (pe_tupJ (pa_cons pe_int (pa_cons pe_int pa_nil))) pa_nil)))) (nomark _)))))))), ?_⟩
    have few := G.few
    have nd : [a, b, c, d].Nodup := by
      obtain ⟨r1, r2, r3, r4, r5, r6⟩ := row
      have ra := inr a (by simp)
      have rb := inr b (by simp)
      have rc := inr c (by simp)
      have irr : ∀ x y : Int, 0 ≤ x → tied rows x y = true → x ≠ y := fun x y h t e => by subst e; rw [tied_self G h] at t; cases t
      have n1 := irr _ _ ra.1 r1
      have n2 := irr _ _ rb.1 r2
      have n3 := irr _ _ rc.1 r3
      have n4 : a ≠ c := fun e => by subst e; rw [r3] at r5; cases r5
      have n5 : a ≠ d := fun e => by subst e; rw [tied_sym G rb ra, r1] at r6; cases r6
      have n6 : b ≠ d := fun e => by subst e; rw [r1] at r5; cases r5
      simp [n1, n2, n3, n4, n5, n6]
    refine seq_by (fun σ1 H1 => σ1 = [some (.ref r), some (.int (rows.length : Int)), some (.ref q), none, none, none, none] ∧ Ex H H1) (fun N hN => ?_) (fun s1 H1 m => ?_)
    · simp [L2.start, tyN_tup h1, h1, jLenT]
      refine ⟨_, rfl, r, rfl, ⟨_, .inl (.inl h1)⟩, fun D hD => lc_tupS (xs := [.int a, .int b, .int c, .int d]) (fun i y _ => y = (fun _ => V.bl true) i) stay_val hD (.inl (.inl h1)) (by simp) (fun i x H2 Nn hx e hH hN' => ?_) (fun acc H2 e h4 hlen hall => ?_)⟩
      · obtain ⟨m, rfl⟩ : ∃ m : Int, x = .int m := by
          have hx' : ([a, b, c, d].map V.int)[i]? = some x := hx
          rw [List.getElem?_map] at hx'
          cases z : [a, b, c, d][i]? with
          | none => rw [z] at hx'; cases hx'
          | some m => rw [z] at hx'; cases hx'; exact ⟨m, rfl⟩
        simp [wipe]
        exact ⟨m, rfl, hN' _ _ (Ex.refl _) rfl⟩
      · have ea : acc = [true, true, true, true].map V.bl := by
          apply List.ext_getElem?
          intro i
          cases z : acc[i]? with
          | none =>
            have := List.getElem?_eq_none_iff.mp z
            rw [List.getElem?_eq_none (by simpa [hlen] using this)]
          | some y =>
            have lt := lt_of_get z
            rw [hlen] at lt
            rw [hall i y z]
            match i, lt with
            | 0, _ => rfl
            | 1, _ => rfl
            | 2, _ => rfl
            | 3, _ => rfl
            | _ + 4, h => exact absurd h (by show ¬ _ < 4; omega)
        exact ⟨D, [true, true, true, true], rfl, .inl (.inl (by rw [← ea]; exact h4)), .inr ⟨rfl, hN _ _ ⟨rfl, e⟩⟩⟩
    obtain ⟨rfl, e1⟩ := m
    refine seq_by (fun σ1 H2 => σ1 = [some (.ref r), some (.int (rows.length : Int)), some (.ref q), none, none, none, none] ∧ Ex H H2) (fun N hN => ?_) (fun s1 H2 m => ?_)
    · have g1 := e1 _ _ h1
      have gi : H1 r = some (.tup ([a, b, c, d].map V.int)) := g1
      simp [and_assoc]
      exact ⟨[a, b, c, d], gi, nd, by simp, .inl ⟨by simp, [a, b, c, d], gi, by simp, by simp, fun m hm => .inl ⟨(inr m hm).1, [a, b, c, d], gi, by simp, by simp, fun m2 hm2 => .inl ⟨(inr m2 hm2).2, hN _ _ ⟨rfl, e1⟩⟩⟩⟩⟩
    obtain ⟨rfl, e2⟩ := m
    have g2 := e2 _ _ h1
    have e1' := e2
    have nat4 : ∀ m : Nat, m < 4 → ∃ z, [a, b, c, d][m]? = some z ∧ (0 ≤ z ∧ z < rows.length) := fun m hm => ⟨[a, b, c, d][m], by simp [List.getElem?_eq_getElem], inr _ (List.getElem_mem _)⟩
    have tie4 : ∀ (k m : Nat) (x y : Int), k < m → m < 4 → [a, b, c, d][k]? = some x → [a, b, c, d][m]? = some y → (tied rows x y = true ↔ k + 1 = m) := fun k m x y hk hm hx hy => by
      obtain ⟨r1, r2, r3, r4, r5, r6⟩ := row
      have cs : (k = 0 ∧ m = 1) ∨ (k = 0 ∧ m = 2) ∨ (k = 1 ∧ m = 2) ∨ (k = 0 ∧ m = 3) ∨ (k = 1 ∧ m = 3) ∨ (k = 2 ∧ m = 3) := by omega
      rcases cs with ⟨rfl, rfl⟩ | ⟨rfl, rfl⟩ | ⟨rfl, rfl⟩ | ⟨rfl, rfl⟩ | ⟨rfl, rfl⟩ | ⟨rfl, rfl⟩ <;> simp at hx hy <;> subst hx <;> subst hy <;> simp [r1, r2, r3, r4, r5, r6]
    refine seq_by (fun σ1 H3 => ∃ f, σ1 = [some (.ref r), some (.int (rows.length : Int)), some (.ref q), some (.ref f), none, none, none] ∧ Ex H2 H3 ∧ H2 f = none ∧ H3 f = some (.lst [])) (fun N hN => ?_) (fun s1 H3 m => ?_)
    · simp
      exact fun f H3 nf e3 h3 => hN _ _ ⟨f, rfl, e3, nf, h3⟩
    obtain ⟨f, rfl, e3, nf, h3⟩ := m
    refine seq_by (fun σ1 H4 => ∃ b4 b5, σ1 = [some (.ref r), some (.int (rows.length : Int)), some (.ref q), some (.ref f), b4, b5, none] ∧ Ex H2 H4 ∧ LsP H4 f (rowFd 4)) (fun N hN => ?_) (fun s1 H4 m => ?_)
    · refine ⟨4, rfl, by decide, by decide, for_range (n := 4) (fun m σ H' => ∃ b4 b5, σ = [some (.ref r), some (.int (rows.length : Int)), some (.ref q), some (.ref f), b4, b5, none] ∧ Ex H2 H' ∧ LsP H' f (rowFd m)) ⟨none, none, rfl, e3, [], h3, TupsAt.nil _⟩ (fun m σ H' hm h => ?_) (fun σ H' h => ?_)⟩
      · obtain ⟨b4, b5, rfl, e4, hf4⟩ := h
        rw [Int.zero_add]
        refine ⟨_, rfl, (m : Int), rfl, by omega, by omega, for_range (n := m) (fun k σ H' => ∃ b5, σ = [some (.ref r), some (.int (rows.length : Int)), some (.ref q), some (.ref f), some (.int (m : Int)), b5, none] ∧ Ex H2 H' ∧ LsP H' f (rowIn m k)) ⟨b5, rfl, e4, ?_⟩ (fun k σ H5 hk h => ?_) (fun σ H5 h => ?_)⟩
        · unfold rowIn
          rw [if_neg (by omega), List.append_nil]
          exact hf4
        · obtain ⟨b5, rfl, e5, us, hf5, hu5⟩ := h
          rw [Int.zero_add]
          obtain ⟨x, gx, ix⟩ := nat4 k (by omega)
          obtain ⟨y, gy, iy⟩ := nat4 m hm
          have t := tie4 k m x y hk hm gx gy
          have g5 : H5 r = some (.tup ([a, b, c, d].map V.int)) := e5 _ _ g2
          have gx' : ([a, b, c, d].map V.int)[k]? = some (.int x) := by rw [List.getElem?_map, gx]; rfl
          have gy' : ([a, b, c, d].map V.int)[m]? = some (.int y) := by rw [List.getElem?_map, gy]; rfl
          have rin : rowIn m k = rowFd m := by unfold rowIn; rw [if_neg (by omega), List.append_nil]
          rw [rin] at hu5
          rw [j_gname]
          simp [and_assoc]
          refine ⟨_, g5, _, gx', _, g5, _, gy', x, rfl, y, rfl, _, g5, _, gx', _, g5, _, gy', x, rfl, y, rfl, fun p6 H6 n6 e6 h6 => ?_⟩
          have e26 := e5.trans e6
          refine ⟨_, _, h6, prs, hq.up (e1'.trans e26), ?_⟩
          have hf6 := e6 _ _ hf5
          have hu6 := hu5.up e6
          have lu : us.length = (rowFd m).length := hu5.1
          have lf : (rowFd m).length ≤ 3 := by unfold rowFd; rw [List.length_take]; simp; omega
          by_cases c : k + 1 = m
          · have em : rowIn m (k + 1) = rowFd m ++ [((k : Int), (m : Int))] := by
              unfold rowIn
              rw [if_pos ⟨c, by omega⟩]
              have : (m : Int) - 1 = k := by omega
              rw [this]
            refine .inr ⟨(mm_tied G R ix iy).mpr (t.mpr c), ⟨_, hf6⟩, fun p7 H7 n7 e7 h7 => ⟨_, e7 _ _ hf6, by rw [List.length_map]; exact lt_line (by omega), ex_upd (e26.trans e7) nf, us ++ [p7], by rw [upd_same, List.map_append]; rfl, ?_⟩⟩
            rw [em]
            exact tups_snoc (tups_upd (hu6.up e7) (e7 _ _ hf6)) (by rw [upd_ne (ne_of_tup h7 (e7 _ _ hf6))]; exact h7)
          · have em : rowIn m (k + 1) = rowFd m := by unfold rowIn; rw [if_neg (by omega), List.append_nil]
            refine .inl ⟨fun z => c (t.mp ((mm_tied G R ix iy).mp z)), e26, ?_⟩
            rw [em]
            exact ⟨us, hf6, hu6⟩
        · obtain ⟨b5, rfl, e5, hf5⟩ := h
          refine ⟨_, _, rfl, e5, ?_⟩
          have : rowIn m m = rowFd (m + 1) := by
            have : m = 0 ∨ m = 1 ∨ m = 2 ∨ m = 3 := by omega
            rcases this with rfl | rfl | rfl | rfl <;> decide
          rw [← this]
          exact hf5
      · obtain ⟨b4, b5, rfl, e4, hf4⟩ := h
        exact hN _ _ ⟨b4, b5, rfl, e4, hf4⟩
    obtain ⟨b4, b5, rfl, e4, hf4⟩ := m
    simp [and_assoc]
    refine ⟨rowFd 4, hf4, fun qs D H5 hp hs nD e5 hD p0 H6 n0 e6 h6 p1 H7 n1 e7 h7 p2 H8 n2 e8 h8 p3 H9 n3 e9 h9 => ⟨qs, hD.up (e6.trans (e7.trans (e8.trans e9))), [(0, 1), (1, 2), (2, 3)], ⟨[p0, p1, p2], h9, ?_⟩, ?_⟩⟩
    · exact TupsAt.cons.mpr ⟨(e7.trans (e8.trans e9)) _ _ h6, TupsAt.cons.mpr ⟨(e8.trans e9) _ _ h7, TupsAt.cons.mpr ⟨e9 _ _ h8, TupsAt.nil _⟩⟩⟩
    · have eq : qs = [(0, 1), (1, 2), (2, 3)] := List.Perm.eq_of_pairwise (fun a b _ _ h1 h2 => lexLe_anti h1 h2) hs rowFd_lex hp
      rw [decide_eq_true eq]
      exact k _ (e1'.trans (e4.trans (e5.trans (e6.trans (e7.trans (e8.trans e9))))))
end
end Jk

namespace Jk
open PySem L2 Evl

/-! ## webs of the same ties -/
structure Same (rows rows' : List (List Int)) : Prop where
  ln : rows'.length = rows.length
  tn : ∀ i j : Nat, tN rows' i j ↔ tN rows i j
theorem same_part {rows rows' : List (List Int)} (G : Good rows) (G' : Good rows') (R : Rel rows' (rngI rows.length).length ((pairsL (rngI rows.length).length).filter (partF rows (rngI rows.length)))) : Same rows rows' := by
  have ln : (rngI rows.length).length = rows.length := by simp [rngI]
  rw [ln] at R
  have hl : rows'.length = rows.length := by have := R.n; omega
  have at' : ∀ i : Nat, i < rows.length → Jk.atI (rngI rows.length) (i : Int) = i := fun i hi => by
    unfold Jk.atI rngI
    rw [Int.toNat_natCast, List.getD_eq_getElem?_getD, List.getElem?_map, List.getElem?_range hi]
    rfl
  have up : ∀ i j : Nat, i < j → (tN rows' i j ↔ tN rows i j) := fun i j hij => by
    have q := R.ti ((i : Int), (j : Int))
    rw [List.mem_filter, pairs_iff] at q
    constructor
    · intro h
      have z := (q.mpr ⟨i, j, rfl, hij, h⟩)
      obtain ⟨⟨i', j', e, _, lj⟩, z2⟩ := z
      cases e
      have e2 : tied rows (Jk.atI (rngI rows.length) (i : Int)) (Jk.atI (rngI rows.length) (j : Int)) = true := z2
      rw [at' i (by omega), at' j (by omega)] at e2
      exact (tied_iff rows i j).mp e2
    · intro h
      have lt := G.lt h
      have z2 : partF rows (rngI rows.length) ((i : Int), (j : Int)) = true := by
        show tied rows (Jk.atI (rngI rows.length) (i : Int)) (Jk.atI (rngI rows.length) (j : Int)) = true
        rw [at' i lt.1, at' j lt.2]
        exact (tied_iff rows i j).mpr h
      obtain ⟨i', j', e, _, t⟩ := q.mp ⟨⟨i, j, rfl, hij, lt.2⟩, z2⟩
      cases e
      exact t
  refine ⟨hl, fun i j => ?_⟩
  rcases Nat.lt_trichotomy i j with h | h | h
  · exact up i j h
  · subst h
    exact ⟨fun z => absurd z (G'.irr i), fun z => absurd z (G.irr i)⟩
  · exact ⟨fun z => G.symm ((up j i h).mp (G'.symm z)), fun z => G'.symm ((up j i h).mpr (G.symm z))⟩
theorem Rel.same {rows rows' : List (List Int)} {n : Int} {prs : List (Int × Int)} (R : Rel rows n prs) (S : Same rows rows') : Rel rows' n prs :=
  ⟨by rw [S.ln]; exact R.n, R.nd, fun p => by rw [R.ti]; constructor <;> rintro ⟨i, j, e, l, h⟩ <;> exact ⟨i, j, e, l, by first | exact (S.tn i j).mpr h | exact (S.tn i j).mp h⟩⟩
/-! ## kept webs -/
def wfK (wp : Addr) : List (Str × V) := putF "_web" (.ref wp) []
theorem wfK_web (l : Addr) : (wfK l).lookup ("_web" : Str) = some (.ref l) := by unfold wfK; rw [lookup_putF, if_pos rfl]
theorem wfK_no (l : Addr) {m : Str} (h : ¬ m = "_web") : (wfK l).lookup m = none := by unfold wfK; rw [lookup_putF, if_neg h]; rfl
structure KeptAt (A : Adr) (H : Hp) (k wp l : Addr) (ds : List Addr) (rows : List (List Int)) : Prop where
  ob : ∃ dx, H k = some (.ins A.c_Kept dx (wfK wp))
  web : WebAt A.c_Web H wp l ds rows
  good : Good rows
theorem KeptAt.up {A : Adr} {H H' : Hp} {k wp l : Addr} {ds : List Addr} {rows : List (List Int)} (h : KeptAt A H k wp l ds rows) (e : Ex H H') : KeptAt A H' k wp l ds rows := ⟨let ⟨dx, z⟩ := h.ob; ⟨dx, e _ _ z⟩, h.web.up e, h.good⟩
@[simp] theorem wfK_tree (l : Addr) : NoFld (wfK l) "tree" := wfK_no l (by decide +kernel)
@[simp] theorem wfK_web0 (l : Addr) : NoFld (wfK l) "web" := wfK_no l (by decide +kernel)
@[simp] theorem wfK_put (l : Addr) : NoFld (wfK l) "put" := wfK_no l (by decide +kernel)
@[simp] theorem wfK_take (l : Addr) : NoFld (wfK l) "take" := wfK_no l (by decide +kernel)
@[simp] theorem wfK_grow (l : Addr) : NoFld (wfK l) "grow" := wfK_no l (by decide +kernel)
@[simp] theorem wfK_become (l : Addr) : NoFld (wfK l) "_become" := wfK_no l (by decide +kernel)
theorem wfK_set (l p : Addr) : putF "_web" (.ref p) (wfK l) = wfK p := by unfold wfK; rfl
theorem part_ok {A : Adr} {H : Hp} {p l hd : Addr} {ds : List Addr} {rows : List (List Int)} {ns : List Int} {Q : VK} {E : XK} (W : WebAt A.c_Web H p l ds rows) (G : Good rows) (h : LsI H hd ns) (nd : ns.Nodup) (rg : ∀ z ∈ ns, z ∈ rngI rows.length) (ne : ns ≠ []) (few : ns.length ≤ 100) (k : RetWeb A.c_Web (partF rows ns) ns.length H Q) : spPart A [.ref p, .ref hd] H Q E := by
  refine ⟨p, l, ds, rows, .ref hd, rfl, W, G, ⟨.lst h, fun a xs e g => ?_⟩, fun z => absurd ⟨hd, ns, rfl, h, nd, fun n hn => rng_in.mp (rg n hn), ne⟩ z, fun a ms e g _ _ _ => ?_⟩
  · cases e
    unfold LsI at h
    rw [h] at g
    cases g
    refine ⟨by rw [List.length_map]; exact few, fun y hy => ?_⟩
    obtain ⟨z, _, rfl⟩ := List.mem_map.mp hy
    exact .int z
  · cases e
    rw [h.uniq g]
    exact k
def spKWeb (A : Adr) : Sp := fun vs H Q _ => ∃ (k wp l : Addr) (ds : List Addr) (rows : List (List Int)), vs = [.ref k] ∧ KeptAt A H k wp l ds rows ∧
  ∀ p' l' ds' rows' H', Ex H H' → WebAt A.c_Web H' p' l' ds' rows' → H p' = none → H l' = none → (∀ d ∈ ds', H d = none) → Good rows' → Same rows rows' → Q (.ref p') H'
def spBecome (A : Adr) : Sp := fun vs H Q E => ∃ (k wp l p' l' : Addr) (ds ds' : List Addr) (rows rows' : List (List Int)), vs = [.ref k, .ref p'] ∧ KeptAt A H k wp l ds rows ∧ WebAt A.c_Web H p' l' ds' rows' ∧ Good rows' ∧
  (rowF (nearF rows') (tiesL rows') = none → ∀ dx H', Ex H H' → H' k = some (.ins A.c_Kept dx (wfK wp)) → Q .non (upd H' k (.ins A.c_Kept dx (wfK p')))) ∧
  ∀ a b c d, rowF (nearF rows') (tiesL rows') = some (a, b, c, d) → ∀ r dd H', H dd = none → Ex H H' → H' r = some (.tup [.int a, .int b, .int c, .int d]) → H' dd = some (.xd (rowX (.ref r))) → E (.ref A.c_NoTree) (some dd) H'
/-- what comes of a deed whose web would be that of these ties -/
def Out (A : Adr) (k : Addr) (v : V) (tn : Nat → Nat → Prop) (n : Nat) (H : Hp) (Q : VK) (E : XK) : Prop := ∀ rows', Good rows' → rows'.length = n → (∀ a b : Nat, tN rows' a b ↔ tn a b) →
  (∀ a b c d, rowF (nearF rows') (tiesL rows') = some (a, b, c, d) → ∀ r dd H', H dd = none → Ex H H' → H' r = some (.tup [.int a, .int b, .int c, .int d]) → H' dd = some (.xd (rowX (.ref r))) → E (.ref A.c_NoTree) (some dd) H') ∧
  (rowF (nearF rows') (tiesL rows') = none → ∀ wp' l' ds' H', H l' = none → But [k] H H' → KeptAt A H' k wp' l' ds' rows' → Q v H')
def spKTwo (A : Adr) (put : Bool) : Sp := fun vs H Q E => ∃ (k wp l : Addr) (ds : List Addr) (rows : List (List Int)) (x y : V), vs = [.ref k, x, y] ∧ KeptAt A H k wp l ds rows ∧ Thing H x ∧ Thing H y ∧
  (okTwo rows x y = false → ∀ H', Ex H H' → E (.ref A.c_BadPoint) none H') ∧
  ∀ i j : Nat, x = .int i → y = .int j → i < rows.length → j < rows.length → i ≠ j → (tied rows i j = put → ∀ H', Ex H H' → E (.ref (if put = true then A.c_Twice else A.c_NoTie)) none H') ∧
    (tied rows i j = !put → Out A k .non (fun a b => if put = true then tN rows a b ∨ (a = i ∧ b = j) ∨ (a = j ∧ b = i) else tN rows a b ∧ ¬ (a = i ∧ b = j) ∧ ¬ (a = j ∧ b = i)) rows.length H Q E)
def spKInit (A : Adr) : Sp := fun vs H Q E => ∃ (k dx : Addr) (x : V), vs = [.ref k, x] ∧ H k = some (.ins A.c_Kept dx []) ∧ Thing H x ∧
  (inR x 1 30 = false → ∀ H', Ex H H' → E (.ref A.c_BadSize) none H') ∧
  ∀ n : Nat, x = .int n → 1 ≤ n → n ≤ 30 → ∀ wp l ds H', H l = none → KeptAt A H' k wp l ds (List.replicate n []) → But [k] H H' → Q .non H'
def spKTree (A : Adr) : Sp := fun vs H Q _ => ∃ (k wp l : Addr) (ds : List Addr) (rows : List (List Int)), vs = [.ref k] ∧ KeptAt A H k wp l ds rows ∧ rowF (nearF rows) (tiesL rows) = none ∧ ∀ t, TreeW rows t → ∀ v H', Ex H H' → ToldAt H' v t → Q v H'
section
variable {P : Program} {w : World} {K : PySem.W.Frag} {mg : Str → Option Value} {base : Heap} {A : Adr}
theorem ok_Kept_web (T : Txt K mg A) : FnOk P w K mg base CX0 6 A.a_Kept_web A.d_Kept_web ["self"] (spKWeb A) := by
  refine T.F_Kept_web.ok sc_Kept_web (fun vs H Q E h => ?_) (fun cdv C outer s H vs Q E hr h => ?_)
  · obtain ⟨k, wp, l, ds, rows, rfl, _⟩ := h
    rfl
  · obtain ⟨k, wp, l, ds, rows, rfl, KA, q⟩ := h
    obtain ⟨dx, hk⟩ := KA.ob
    obtain ⟨⟨dw, w1⟩, w2, w3, w4, w5⟩ := id KA.web
    have few := KA.good.few
    have one := KA.good.one
    refine ⟨_, (pss_one (ps_ret (pe_call (ok_part T) (hr.mono (by omega)) rfl T.g_part T.k_part T.b_part .nil passL (pa_cons (pe_fldK (K0 := K) (pv 0)) (pa_cons (pe_lstR rfl (by rfl) T.list (by rfl) T.range (pe_meth0 (pe_fldK (K0 := K) (pv 0)) T.cl_Web T.m_Web_many (ok_Web_many T) (hr.mono (by omega)) T.b_Web_many .nil pass0)) pa_nil))))), ?_⟩
    simp [L2.start, and_assoc, hk, wfK_web, T.n_Kept__web, T.cl_Kept, w1, spMany, web_ex KA.web]
    refine ⟨rows.length, rfl, by omega, fun q1 H1 n1 e1 h1 => ?_⟩
    have h1' : LsI H1 q1 (rngI rows.length) := h1
    refine part_ok (KA.web.up e1) KA.good h1' (rng_nd _) (fun z hz => hz) (fun e => ?_) (by simp [rngI]; omega) fun p' l' ds' rows' H' e' W' n1' n2' n3' G' R' => q p' l' ds' rows' H' (e1.trans e') W' (fresh_back e1 n1') (fresh_back e1 n2') (fun d hd => fresh_back e1 (n3' d hd)) G' (same_part KA.good G' R')
    have ln : (rngI rows.length).length = rows.length := by simp [rngI]
    rw [e, List.length_nil] at ln
    omega
theorem ok_Kept_become (T : Txt K mg A) : FnOk P w K mg base (L2.CX P w) 6 A.a_Kept_become A.d_Kept_become ["self", "would_be"] (spBecome A) := by
  refine T.F_Kept_become.okX sc_Kept_become (fun vs H Q E h => ?_) (fun cdv C outer s H vs Q E hr h => ?_)
  · obtain ⟨k, wp, l, p', l', ds, ds', rows, rows', rfl, _⟩ := h
    rfl
  · obtain ⟨k, wp, l, p', l', ds, ds', rows, rows', rfl, KA, W', G', q1, q2⟩ := h
    obtain ⟨dx, hk⟩ := KA.ob
    refine ⟨_, (pss_cons (ps_set (i := 2) sc_Kept_become.nd rfl (Or.inl rfl) (pe_call (ok_row_in T) (hr.mono (by omega)) rfl T.g_row_in T.k_row_in T.b_row_in .nil pass0 (pa_cons (pv 1) pa_nil)))
  (pss_cons (ps_if (pt_cmpR op_notN (pv 2) pe_non (nomark _))
    (pss_one (ps_raiseNt rfl T.nt hr (takes_of rfl rfl rfl rfl) (pa_cons (pv 2) pa_nil)))
    pss_nil)
  (pss_one (ps_fld (pv 0) (pv 1) rfl)))), ?_⟩
    cases rf : rowF (nearF rows') (tiesL rows') with
    | some q =>
      obtain ⟨a, b, c, d⟩ := q
      refine seq_by (fun σ1 H1 => ∃ r, σ1 = [some (.ref k), some (.ref p'), some (.ref r)] ∧ Ex H H1 ∧ H1 r = some (.tup [.int a, .int b, .int c, .int d])) (fun N hN => ?_) (fun s1 H1 m => ?_)
      · simp [L2.start, and_assoc]
        refine ⟨p', l', ds', rows', rfl, W', G', fun z => (by rw [rf] at z; cases z), fun a' b' c' d' z r H1 nr e1 h1 => ?_⟩
        rw [rf] at z
        cases z
        exact hN _ _ ⟨r, rfl, e1, h1⟩
      obtain ⟨r, rfl, e1, h1⟩ := m
      simp
      exact fun dd nd => q2 a b c d rf r dd _ (fresh_back e1 nd) (e1.trans (Ex.new nd)) ((Ex.new nd) _ _ h1) upd_same
    | none =>
      refine seq_by (fun σ1 H1 => σ1 = [some (.ref k), some (.ref p'), some .non] ∧ Ex H H1) (fun N hN => ?_) (fun s1 H1 m => ?_)
      · simp [L2.start, and_assoc]
        exact ⟨p', l', ds', rows', rfl, W', G', fun _ H' e => hN _ _ ⟨rfl, e⟩, fun a b c d z => by rw [rf] at z; cases z⟩
      obtain ⟨rfl, e1⟩ := m
      refine seq_by (fun σ1 H2 => σ1 = [some (.ref k), some (.ref p'), some .non] ∧ Ex H H2) (fun N hN => ?_) (fun s1 H2 m => ?_)
      · simp
        exact hN _ _ ⟨rfl, e1⟩
      obtain ⟨rfl, e2⟩ := m
      simp [and_assoc, e2 _ _ hk, T.cl_Kept, T.n_Kept__web]
      exact ⟨Nat.lt_of_le_of_lt (show (wfK wp).length ≤ 1 from Nat.le_refl 1) (by decide), by rw [wfK_set]; exact q1 rf dx H2 e2 (e2 _ _ hk)⟩
theorem ok_Kept_tree (T : Txt K mg A) : FnOk P w K mg base (L2.CX P w) 34 A.a_Kept_tree A.d_Kept_tree ["self"] (spKTree A) := by
  refine T.F_Kept_tree.okX sc_Kept_tree (fun vs H Q E h => ?_) (fun cdv C outer s H vs Q E hr h => ?_)
  · obtain ⟨k, wp, l, ds, rows, rfl, _⟩ := h
    rfl
  · obtain ⟨k, wp, l, ds, rows, rfl, KA, rf, q⟩ := h
    obtain ⟨dx, hk⟩ := KA.ob
    refine ⟨_, (pss_one (ps_ret (pe_call (ok_tree_of T) (hr.mono (by omega)) rfl T.g_tree_of T.k_tree_of T.b_tree_of .nil (passes_call (E := E) (takes_of rfl rfl rfl rfl) fun _ _ _ _ z => z) (pa_cons (pe_fldK (K0 := K) (pv 0)) pa_nil)))), ?_⟩
    simp [L2.start, and_assoc, hk, wfK_web, T.n_Kept__web, T.cl_Kept]
    exact ⟨wp, l, ds, rows, rfl, KA.web, KA.good, q, fun a b c d z => by rw [rf] at z; cases z⟩
theorem ok_Kept_init (T : Txt K mg A) : FnOk P w K mg base (L2.CX P w) 4 A.a_Kept_init A.d_Kept_init ["self", "many"] (spKInit A) := by
  refine T.F_Kept_init.okX sc_Kept_init (fun vs H Q E h => ?_) (fun cdv C outer s H vs Q E hr h => ?_)
  · obtain ⟨k, dx, x, rfl, _⟩ := h
    rfl
  · obtain ⟨k, dx, x, rfl, hk, th, q1, q2⟩ := h
    refine ⟨_, (pss_one (ps_fld (pv 0) (pe_make T.mk_Web (ok_Web_init T) (hr.mono (by omega)) rfl T.gWeb T.b_Web_init .nil (passes_call (E := E) (takes_of rfl rfl rfl rfl) fun _ _ _ _ z => z) (pa_cons (pv 1) pa_nil)) rfl)), ?_⟩
    simp [L2.start, and_assoc]
    intro p' dx' np ndx nxd
    have eX : Ex H (upd (upd H dx' (.own p')) p' (.ins A.c_Web dx' [])) := fun b o e => by
      rw [upd_ne (ne_of_none e np), upd_ne (ne_of_none e ndx)]; exact e
    refine ⟨p', dx', x, rfl, upd_same, th.up eX, fun z => q1 z _ eX, fun z l' ds' H1 W1 b1 nl nds => ⟨rfl, ?_⟩⟩
    obtain ⟨n, rfl, i1, i30⟩ : ∃ n : Nat, x = .int n ∧ 1 ≤ n ∧ n ≤ 30 := by
      cases x with
      | int i => simp [inR] at z; exact ⟨i.toNat, by rw [Int.toNat_of_nonneg (by omega)], by omega, by omega⟩
      | _ => cases z
    have e01 : Ex H H1 := fun b o e => b1.kp b o (eX b o e) (by simpa using ne_of_none e np)
    have e1n : (iOf (.int (n : Int))).toNat = n := by simp [iOf]
    rw [e1n] at W1
    have hk1 := e01 _ _ hk
    refine ⟨_, _, _, hk1, T.cl_Kept, T.n_Kept__web, by decide, ?_⟩
    obtain ⟨⟨dw, v1⟩, v2, v3, v4, v5⟩ := W1
    have nn : ∀ (b : Addr) (o : HO), H1 b = some o → (∀ C d fs, o ≠ .ins C d fs) → b ≠ k := fun b o h no e => by
      rw [e, hk1] at h
      exact no _ _ _ (Option.some.inj h).symm
    have pk : p' ≠ k := fun e => by rw [e, hk] at np; cases np
    refine q2 n rfl i1 i30 p' l' ds' _ (fresh_back eX nl) ⟨⟨dx, upd_same⟩, ⟨⟨dw, by rw [upd_ne pk]; exact v1⟩, by rw [upd_ne (nn _ _ v2 fun _ _ _ z => by cases z)]; exact v2, v3, v4, fun i d r a b => ?_⟩, good_init i1 i30⟩ ((But.of_ex e01).updT (by simp))
    have z := v5 i d r a b
    rw [upd_ne (nn _ _ z fun _ _ _ z => by cases z)]
    exact z
end

end Jk

namespace Jk
open PySem L2 Evl

theorem WebAt.updK {A : Adr} {H : Hp} {k p l dx : Addr} {ds : List Addr} {rows : List (List Int)} {fs : List (Str × V)} {o : HO} (W : WebAt A.c_Web H p l ds rows) (hk : H k = some (.ins A.c_Kept dx fs)) (pk : p ≠ k) : WebAt A.c_Web (upd H k o) p l ds rows := by
  obtain ⟨⟨dw, v1⟩, v2, v3, v4, v5⟩ := W
  have nn : ∀ (b : Addr) (o : HO), H b = some o → (∀ C d fs, o ≠ .ins C d fs) → b ≠ k := fun b o h no e => by
    rw [e, hk] at h
    exact no _ _ _ (Option.some.inj h).symm
  refine ⟨⟨dw, by rw [upd_ne pk]; exact v1⟩, by rw [upd_ne (nn _ _ v2 fun _ _ _ z => by cases z)]; exact v2, v3, v4, fun i d r a b => ?_⟩
  have z := v5 i d r a b
  rw [upd_ne (nn _ _ z fun _ _ _ z => by cases z)]
  exact z
section
variable {P : Program} {w : World} {K : PySem.W.Frag} {mg : Str → Option Value} {base : Heap} {A : Adr}
theorem ok_Kept_put (T : Txt K mg A) : FnOk P w K mg base (L2.CX P w) 7 A.a_Kept_put A.d_Kept_put ["self", "one", "other"] (spKTwo A true) := by
  refine T.F_Kept_put.okX sc_Kept_put (fun vs H Q E h => ?_) (fun cdv C outer s H vs Q E hr h => ?_)
  · obtain ⟨k, wp, l, ds, rows, x, y, rfl, _⟩ := h
    rfl
  · obtain ⟨k, wp, l, ds, rows, x, y, rfl, KA, tx, ty, q1, q2⟩ := h
    obtain ⟨dx, hk⟩ := KA.ob
    refine ⟨_, (pss_cons (ps_set (i := 3) sc_Kept_put.nd rfl (Or.inl rfl) (pe_meth0 (pv 0) T.cl_Kept T.m_Kept_web (ok_Kept_web T) (hr.mono (by omega)) T.b_Kept_web .nil pass0))
  (pss_cons (ps_expr (pe_meth (pv 3) T.cl_Web T.m_Web_put (ok_Web_put T) (hr.mono (by omega)) T.b_Web_put .nil (passes_call (E := E) (takes_of rfl rfl rfl rfl) fun _ _ _ _ z => z) (pa_cons (pv 1) (pa_cons (pv 2) pa_nil))))
  (pss_one (ps_expr (pe_meth (pv 0) T.cl_Kept T.m_Kept_become (ok_Kept_become T) (hr.mono (by omega)) T.b_Kept_become .nil (passes_call (E := E) (takes_of rfl rfl rfl rfl) fun _ _ _ _ z => z) (pa_cons (pv 3) pa_nil)))))), ?_⟩
    refine seq_by (fun σ1 H1 => ∃ p' l' ds' rows', σ1 = [some (.ref k), some x, some y, some (.ref p')] ∧ Ex H H1 ∧ WebAt A.c_Web H1 p' l' ds' rows' ∧ H p' = none ∧ H l' = none ∧ (∀ d ∈ ds', H d = none) ∧ Good rows' ∧ Same rows rows') (fun N hN => ?_) (fun s1 H1 m => ?_)
    · simp [L2.start, and_assoc, hk]
      exact ⟨k, wp, l, ds, rows, rfl, KA, fun p' l' ds' rows' H1 e1 W' np nl nds G' S => hN _ _ ⟨p', l', ds', rows', rfl, e1, W', np, nl, nds, G', S⟩⟩
    obtain ⟨p', l', ds', rows', rfl, e1, W', np, nl, nds, G', S⟩ := m
    obtain ⟨dw, w1⟩ := W'.ob
    have sm : ∀ r ∈ rows', r.length ≤ 100 := fun r hr => by have := G'.small r hr; omega
    have ok : okTwo rows' x y = okTwo rows x y := by unfold okTwo okPt; rw [S.ln]
    have td : ∀ i j : Nat, tied rows' i j = tied rows i j := fun i j => by
      have z : tied rows' i j = true ↔ tied rows i j = true := by rw [tied_iff, tied_iff]; exact S.tn i j
      cases c1 : tied rows' i j <;> cases c2 : tied rows i j <;> simp_all
    refine seq_by (fun σ1 H2 => ∃ (rows2 : List (List Int)) (i j : Nat), σ1 = [some (.ref k), some x, some y, some (.ref p')] ∧ Ex H H2 ∧ WebAt A.c_Web H2 p' l' ds' rows2 ∧ Good rows2 ∧ (x = .int i ∧ y = .int j ∧ i < rows.length ∧ j < rows.length ∧ i ≠ j) ∧ tied rows i j = !true ∧ rows2.length = rows.length ∧ (∀ a b, tN rows2 a b ↔ tN rows a b ∨ (a = i ∧ b = j) ∨ (a = j ∧ b = i))) (fun N hN => ?_) (fun s1 H2 m => ?_)
    · simp [and_assoc, w1]
      refine ⟨p', l', ds', rows', x, y, rfl, W', tx.up e1, ty.up e1, G'.sy, sm, fun z => q1 (by rw [← ok]; exact z) H1 e1, fun z t => ?_, fun z t H2 W2 b2 => ?_⟩
      · obtain ⟨i, j, rfl, rfl, hi, hj, ij⟩ := okTwo_ints z
        rw [S.ln] at hi hj
        exact (q2 i j rfl rfl hi hj ij).1 (by rw [← td]; exact t) H1 e1
      · obtain ⟨i, j, rfl, rfl, hi, hj, ij⟩ := okTwo_ints z
        have t' : tied rows' i j = !true := t
        simp only [iOf, Int.toNat_natCast] at W2
        have nt : ¬ tN rows' i j := fun z => by rw [← tied_iff, t'] at z; cases z
        exact hN _ _ ⟨_, i, j, rfl, ex_but e1 b2 nds, W2, (good_put G' hi hj ij nt), ⟨rfl, rfl, by rw [← S.ln]; exact hi, by rw [← S.ln]; exact hj, ij⟩, by rw [← td]; exact t', by rw [len_putR]; exact S.ln, fun a b => by rw [tN_put hi hj ij, S.tn]⟩
    obtain ⟨rows2, i, j, rfl, e2, W2, G2, ⟨rfl, rfl, hi, hj, ij⟩, t2, ln2, tn2⟩ := m
    have out := (q2 i j rfl rfl hi hj ij).2 t2 rows2 G2 ln2 (fun a b => by rw [tn2]; rfl)
    simp [and_assoc, e2 _ _ hk]
    refine ⟨k, wp, l, p', l', ds, ds', rows, rows2, rfl, KA.up e2, W2, G2, fun rf dx' H3 e3 hk3 => ?_, fun a b c d z r dd H3 nd e3 hr hd => out.1 a b c d z r dd H3 (fresh_back e2 nd) (e2.trans e3) hr hd⟩
    exact out.2 rf p' l' ds' _ nl ((But.of_ex (e2.trans e3)).updT (by simp)) ⟨⟨dx', upd_same⟩, (W2.up e3).updK hk3 (fun e => by rw [e, hk] at np; cases np), G2⟩
theorem ok_Kept_take (T : Txt K mg A) : FnOk P w K mg base (L2.CX P w) 7 A.a_Kept_take A.d_Kept_take ["self", "one", "other"] (spKTwo A false) := by
  refine T.F_Kept_take.okX sc_Kept_take (fun vs H Q E h => ?_) (fun cdv C outer s H vs Q E hr h => ?_)
  · obtain ⟨k, wp, l, ds, rows, x, y, rfl, _⟩ := h
    rfl
  · obtain ⟨k, wp, l, ds, rows, x, y, rfl, KA, tx, ty, q1, q2⟩ := h
    obtain ⟨dx, hk⟩ := KA.ob
    refine ⟨_, (pss_cons (ps_set (i := 3) sc_Kept_take.nd rfl (Or.inl rfl) (pe_meth0 (pv 0) T.cl_Kept T.m_Kept_web (ok_Kept_web T) (hr.mono (by omega)) T.b_Kept_web .nil pass0))
  (pss_cons (ps_expr (pe_meth (pv 3) T.cl_Web T.m_Web_take (ok_Web_take T) (hr.mono (by omega)) T.b_Web_take .nil (passes_call (E := E) (takes_of rfl rfl rfl rfl) fun _ _ _ _ z => z) (pa_cons (pv 1) (pa_cons (pv 2) pa_nil))))
  (pss_one (ps_expr (pe_meth (pv 0) T.cl_Kept T.m_Kept_become (ok_Kept_become T) (hr.mono (by omega)) T.b_Kept_become .nil (passes_call (E := E) (takes_of rfl rfl rfl rfl) fun _ _ _ _ z => z) (pa_cons (pv 3) pa_nil)))))), ?_⟩
    refine seq_by (fun σ1 H1 => ∃ p' l' ds' rows', σ1 = [some (.ref k), some x, some y, some (.ref p')] ∧ Ex H H1 ∧ WebAt A.c_Web H1 p' l' ds' rows' ∧ H p' = none ∧ H l' = none ∧ (∀ d ∈ ds', H d = none) ∧ Good rows' ∧ Same rows rows') (fun N hN => ?_) (fun s1 H1 m => ?_)
    · simp [L2.start, and_assoc, hk]
      exact ⟨k, wp, l, ds, rows, rfl, KA, fun p' l' ds' rows' H1 e1 W' np nl nds G' S => hN _ _ ⟨p', l', ds', rows', rfl, e1, W', np, nl, nds, G', S⟩⟩
    obtain ⟨p', l', ds', rows', rfl, e1, W', np, nl, nds, G', S⟩ := m
    obtain ⟨dw, w1⟩ := W'.ob
    have sm : ∀ r ∈ rows', r.length ≤ 100 := fun r hr => by have := G'.small r hr; omega
    have ok : okTwo rows' x y = okTwo rows x y := by unfold okTwo okPt; rw [S.ln]
    have td : ∀ i j : Nat, tied rows' i j = tied rows i j := fun i j => by
      have z : tied rows' i j = true ↔ tied rows i j = true := by rw [tied_iff, tied_iff]; exact S.tn i j
      cases c1 : tied rows' i j <;> cases c2 : tied rows i j <;> simp_all
    refine seq_by (fun σ1 H2 => ∃ (rows2 : List (List Int)) (i j : Nat), σ1 = [some (.ref k), some x, some y, some (.ref p')] ∧ Ex H H2 ∧ WebAt A.c_Web H2 p' l' ds' rows2 ∧ Good rows2 ∧ (x = .int i ∧ y = .int j ∧ i < rows.length ∧ j < rows.length ∧ i ≠ j) ∧ tied rows i j = !false ∧ rows2.length = rows.length ∧ (∀ a b, tN rows2 a b ↔ tN rows a b ∧ ¬ (a = i ∧ b = j) ∧ ¬ (a = j ∧ b = i))) (fun N hN => ?_) (fun s1 H2 m => ?_)
    · simp [and_assoc, w1]
      refine ⟨p', l', ds', rows', x, y, rfl, W', tx.up e1, ty.up e1, G'.sy, fun z => q1 (by rw [← ok]; exact z) H1 e1, fun z t => ?_, fun z t H2 W2 b2 => ?_⟩
      · obtain ⟨i, j, rfl, rfl, hi, hj, ij⟩ := okTwo_ints z
        rw [S.ln] at hi hj
        exact (q2 i j rfl rfl hi hj ij).1 (by rw [← td]; exact t) H1 e1
      · obtain ⟨i, j, rfl, rfl, hi, hj, ij⟩ := okTwo_ints z
        have t' : tied rows' i j = !false := t
        simp only [iOf, Int.toNat_natCast] at W2
        skip
        exact hN _ _ ⟨_, i, j, rfl, ex_but e1 b2 nds, W2, (good_take G' hi hj ij), ⟨rfl, rfl, by rw [← S.ln]; exact hi, by rw [← S.ln]; exact hj, ij⟩, by rw [← td]; exact t', by rw [len_takeR]; exact S.ln, fun a b => by rw [tN_take hi hj ij, S.tn]⟩
    obtain ⟨rows2, i, j, rfl, e2, W2, G2, ⟨rfl, rfl, hi, hj, ij⟩, t2, ln2, tn2⟩ := m
    have out := (q2 i j rfl rfl hi hj ij).2 t2 rows2 G2 ln2 (fun a b => by rw [tn2]; rfl)
    simp [and_assoc, e2 _ _ hk]
    refine ⟨k, wp, l, p', l', ds, ds', rows, rows2, rfl, KA.up e2, W2, G2, fun rf dx' H3 e3 hk3 => ?_, fun a b c d z r dd H3 nd e3 hr hd => out.1 a b c d z r dd H3 (fresh_back e2 nd) (e2.trans e3) hr hd⟩
    exact out.2 rf p' l' ds' _ nl ((But.of_ex (e2.trans e3)).updT (by simp)) ⟨⟨dx', upd_same⟩, (W2.up e3).updK hk3 (fun e => by rw [e, hk] at np; cases np), G2⟩

end
end Jk

namespace Jk
open PySem L2 Evl

theorem thing_same {H H' : Hp} {x : V} {a : Addr} {o : HO} (t : Thing H x) (e : Ex H H') (hx : x = .ref a) (h : H' a = some o) : H a = some o := by
  subst hx
  cases t with
  | lst g => have := e _ _ g; rw [this] at h; rw [← h]; exact g
  | tup g => have := e _ _ g; rw [this] at h; rw [← h]; exact g
  | dK g => have := e _ _ g; rw [this] at h; rw [← h]; exact g
theorem Lst1.up {H H' : Hp} {x : V} (h : Lst1 H x) (e : Ex H H') : Lst1 H' x := ⟨h.th.up e, fun a xs hx ha => by
  have := h.it a xs hx (thing_same h.th e hx ha)
  exact ⟨this.1, fun y hy => (this.2 y hy).up e⟩⟩
theorem Unl.back {H H' : Hp} {x : V} {m : Int} (h : Thing H x) (e : Ex H H') (u : Unl H' x m) : Unl H x m := by
  obtain ⟨a, ns, hx, hl, nd, r⟩ := u
  exact ⟨a, ns, hx, thing_same h e hx hl, nd, r⟩
def grownTN (rows : List (List Int)) (ns : List Int) (a b : Nat) : Prop := tN rows a b ∨ (b = rows.length ∧ (a : Int) ∈ ns) ∨ (a = rows.length ∧ (b : Int) ∈ ns)
def spKGrow (A : Adr) : Sp := fun vs H Q E => ∃ (k wp l : Addr) (ds : List Addr) (rows : List (List Int)) (x : V), vs = [.ref k, x] ∧ KeptAt A H k wp l ds rows ∧ Lst1 H x ∧
  (rows.length = 30 → ∀ H', Ex H H' → E (.ref A.c_TooMany) none H') ∧
  (rows.length < 30 → ¬ Unl H x rows.length → ∀ H', Ex H H' → E (.ref A.c_BadPoint) none H') ∧
  (rows.length < 30 → ∀ a ns, x = .ref a → LsI H a ns → ns.Nodup → (∀ n ∈ ns, 0 ≤ n ∧ n < (rows.length : Int)) → Out A k (.int (rows.length : Int)) (grownTN rows ns) (rows.length + 1) H Q E)
section
variable {P : Program} {w : World} {K : PySem.W.Frag} {mg : Str → Option Value} {base : Heap} {A : Adr}
theorem ok_Kept_grow (T : Txt K mg A) : FnOk P w K mg base (L2.CX P w) 7 A.a_Kept_grow A.d_Kept_grow ["self", "points"] (spKGrow A) := by
  refine T.F_Kept_grow.okX sc_Kept_grow (fun vs H Q E h => ?_) (fun cdv C outer s H vs Q E hr h => ?_)
  · obtain ⟨k, wp, l, ds, rows, x, rfl, _⟩ := h
    rfl
  · obtain ⟨k, wp, l, ds, rows, x, rfl, KA, L, q1, q2, q3⟩ := h
    obtain ⟨dx, hk⟩ := KA.ob
    have few := KA.good.few
    refine ⟨_, (pss_cons (ps_set (i := 2) sc_Kept_grow.nd rfl (Or.inl rfl) (pe_meth0 (pv 0) T.cl_Kept T.m_Kept_web (ok_Kept_web T) (hr.mono (by omega)) T.b_Kept_web .nil pass0))
  (pss_cons (ps_set (i := 3) sc_Kept_grow.nd rfl (Or.inl rfl) (pe_meth0 (pv 2) T.cl_Web T.m_Web_grow (ok_Web_grow T) (hr.mono (by omega)) T.b_Web_grow .nil (passes_call (E := E) (takes_of rfl rfl rfl rfl) fun _ _ _ _ z => z)))
  (pss_cons (ps_if (pt_not (pt_val (pe_call (ok_unlike_points T) (hr.mono (by omega)) rfl T.g_unlike_points T.k_unlike_points T.b_unlike_points .nil pass0 (pa_cons (pv 1) (pa_cons (pv 3) pa_nil)))))
    (pss_one (ps_raise rfl (takes_of rfl rfl rfl rfl) (pmk_own PySem.F.excBase_ValueError T.xBadPoint T.gBadPoint T.kBadPoint (raises_own T.bBadPoint T.tBadPoint) rfl)))
    pss_nil)
  (pss_cons (ps_for (passes_of rfl) rfl (pi_list (pv 1)) (pg_name (i := 4) sc_Kept_grow.nd rfl (.inl rfl))
    (pss_one (ps_expr (pe_meth (pv 2) T.cl_Web T.m_Web_put (ok_Web_put T) (hr.mono (by omega)) T.b_Web_put .nil (passes_call (E := E) (takes_of rfl rfl rfl rfl) fun _ _ _ _ z => z) (pa_cons (pv 4) (pa_cons (pv 3) pa_nil))))))
  (pss_cons (ps_expr (pe_meth (pv 0) T.cl_Kept T.m_Kept_become (ok_Kept_become T) (hr.mono (by omega)) T.b_Kept_become .nil (passes_call (E := E) (takes_of rfl rfl rfl rfl) fun _ _ _ _ z => z) (pa_cons (pv 2) pa_nil)))
  (pss_one (ps_ret (pv 3)))))))), ?_⟩
    refine seq_by (fun σ1 H1 => ∃ p' l' ds' rows', σ1 = [some (.ref k), some x, some (.ref p'), none, none] ∧ Ex H H1 ∧ WebAt A.c_Web H1 p' l' ds' rows' ∧ H p' = none ∧ H l' = none ∧ (∀ d ∈ ds', H d = none) ∧ Good rows' ∧ Same rows rows') (fun N hN => ?_) (fun s1 H1 m => ?_)
    · simp [L2.start, and_assoc, hk]
      exact ⟨k, wp, l, ds, rows, rfl, KA, fun p' l' ds' rows' H1 e1 W' np nl nds G' S => hN _ _ ⟨p', l', ds', rows', rfl, e1, W', np, nl, nds, G', S⟩⟩
    obtain ⟨p', l', ds', rows', rfl, e1, W', np, nl, nds, G', S⟩ := m
    obtain ⟨dw, w1⟩ := W'.ob
    refine seq_by (fun σ1 H2 => ∃ ds2, σ1 = [some (.ref k), some x, some (.ref p'), some (.int (rows.length : Int)), none] ∧ Ex H H2 ∧ WebAt A.c_Web H2 p' l' ds2 (rows' ++ [[]]) ∧ (∀ d ∈ ds2, H d = none) ∧ rows.length < 30) (fun N hN => ?_) (fun s1 H2 m => ?_)
    · simp [and_assoc, w1]
      have hl := S.ln
      refine ⟨p', l', ds', rows', rfl, W', by omega, fun z => q1 (by omega) H1 e1, fun z d H2 nd W2 b2 => hN _ _ ⟨ds' ++ [d], by rw [hl], ex_but e1 b2 (by simpa using nl), W2, fun x hx => ?_, by omega⟩⟩
      rcases List.mem_append.mp hx with h | h
      · exact nds x h
      · simp at h
        subst h
        exact fresh_back e1 nd
    obtain ⟨ds2, rfl, e2, W2, nds2, lt⟩ := m
    refine seq_by (fun σ1 H3 => σ1 = [some (.ref k), some x, some (.ref p'), some (.int (rows.length : Int)), none] ∧ H2 = H3 ∧ Unl H x rows.length) (fun N hN => ?_) (fun s1 H3 m => ?_)
    · simp [and_assoc]
      refine ⟨x, rows.length, rfl, L.up e2, fun u => ?_, fun u => ?_⟩
      · have u0 := Unl.back L.th e2 u
        exact .inr ⟨rfl, hN _ _ ⟨rfl, rfl, u0⟩⟩
      · have nu : ¬ Unl H x rows.length := fun ⟨a, ns, hx, hl, z⟩ => u ⟨a, ns, hx, e2 _ _ hl, z⟩
        exact .inl ⟨rfl, q2 lt nu H2 e2⟩
    obtain ⟨rfl, rfl, a, ns, rfl, ha, nd, inr⟩ := m
    have ha2 := e2 _ _ ha
    have lnn : ns.length ≤ 30 := by have := nd_len (m := rows.length) nd inr; omega
    refine seq_by (fun σ1 H3 => ∃ (b4 : Option V) (rows3 : List (List Int)), σ1 = [some (.ref k), some (.ref a), some (.ref p'), some (.int (rows.length : Int)), b4] ∧ Ex H H3 ∧ WebAt A.c_Web H3 p' l' ds2 rows3 ∧ Good rows3 ∧ rows3.length = rows.length + 1 ∧ ∀ a b, tN rows3 a b ↔ grownTN rows ns a b) (fun N hN => ?_) (fun s1 H3 m => ?_)
    · refine ⟨_, rfl, a, rfl, ⟨_, .inl (.inl ha2)⟩, for_list (xs := ns.map V.int) (fun m σ H' => ∃ (b4 : Option V) (rows3 : List (List Int)), σ = [some (.ref k), some (.ref a), some (.ref p'), some (.int (rows.length : Int)), b4] ∧ Ex H H' ∧ WebAt A.c_Web H' p' l' ds2 rows3 ∧ Good rows3 ∧ rows3.length = rows.length + 1 ∧ ∀ a b, tN rows3 a b ↔ grownTN rows (ns.take m) a b) ⟨none, _, rfl, e2, W2, good_grow G' (by rw [S.ln]; omega), by rw [List.length_append, S.ln]; rfl, fun a b => ?_⟩ (fun m σ H' _ h => ?_) (fun m x σ H' hx h => ?_) (fun σ H' h => ?_)⟩
      · unfold grownTN tN
        rw [grow_at]
        have := S.tn a b
        unfold tN at this
        rw [this]
        simp
      · obtain ⟨_, _, rfl, e, _⟩ := h
        exact .inl (.inl (e _ _ ha))
      · obtain ⟨b4, rows3, rfl, e3, W3, G3, ln3, tn3⟩ := h
        rw [List.getElem?_map] at hx
        cases hc : ns[m]? with
        | none => rw [hc] at hx; cases hx
        | some c =>
          rw [hc] at hx
          cases hx
          have ic := inr c (List.mem_of_getElem? hc)
          obtain ⟨i, rfl⟩ : ∃ i : Nat, c = (i : Int) := ⟨c.toNat, by omega⟩
          obtain ⟨dw3, w3⟩ := W3.ob
          have sm : ∀ r ∈ rows3, r.length ≤ 100 := fun r hr => by have := G3.small r hr; omega
          have ok2 : okTwo rows3 (.int (i : Int)) (.int (rows.length : Int)) = true := by
            unfold okTwo
            rw [okPt_of (by omega) (by simp; omega), okPt_of (by omega) (by simp; omega)]
            simp; omega
          have tk := take_one hc
          have nt : ¬ tN rows3 i rows.length := fun z => by
            rcases (tn3 _ _).mp z with z | ⟨_, z⟩ | ⟨z, _⟩
            · have := (KA.good.lt z).2
              omega
            · have nd2 : (ns.take (m + 1)).Nodup := nd.sublist (List.take_sublist _ _)
              rw [tk] at nd2
              exact (List.nodup_append.mp nd2).2.2 _ z _ (by simp) rfl
            · omega
          have tf : tied rows3 i rows.length = false := by
            cases cc : tied rows3 i rows.length with
            | false => rfl
            | true => exact absurd ((tied_iff rows3 i rows.length).mp cc) nt
          simp [and_assoc, w3, ok2, iOf, spPut, web_ex W3, G3.sy, tf]
          refine ⟨.int _, .int _, sm, fun H4 W4 b4 => ⟨ex_but e3 b4 nds2, _, W4, good_put G3 (by omega) (by omega) (by omega) nt, by rw [len_putR]; exact ln3, fun a b => ?_⟩⟩
          rw [tN_put (by omega) (by omega) (by omega), tn3]
          unfold grownTN
          rw [tk]
          simp only [List.mem_append, List.mem_singleton]
          constructor
          · rintro ((h | ⟨h, h2⟩ | ⟨h, h2⟩) | ⟨rfl, rfl⟩ | ⟨rfl, rfl⟩)
            · exact .inl h
            · exact .inr (.inl ⟨h, .inl h2⟩)
            · exact .inr (.inr ⟨h, .inl h2⟩)
            · exact .inr (.inl ⟨rfl, .inr rfl⟩)
            · exact .inr (.inr ⟨rfl, .inr rfl⟩)
          · rintro (h | ⟨h, h2 | h2⟩ | ⟨h, h2 | h2⟩)
            · exact .inl (.inl h)
            · exact .inl (.inr (.inl ⟨h, h2⟩))
            · exact .inr (.inl ⟨by omega, h⟩)
            · exact .inl (.inr (.inr ⟨h, h2⟩))
            · exact .inr (.inr ⟨h, by omega⟩)
      · obtain ⟨b4, rows3, rfl, e3, W3, G3, ln3, tn3⟩ := h
        rw [List.length_map, List.take_length] at tn3
        exact hN _ _ ⟨b4, rows3, rfl, e3, W3, G3, ln3, tn3⟩
    obtain ⟨b4, rows3, rfl, e3, W3, G3, ln3, tn3⟩ := m
    have out := q3 lt a ns rfl ha nd inr rows3 G3 ln3 tn3
    refine seq_by (fun σ1 H4 => σ1 = [some (.ref k), some (.ref a), some (.ref p'), some (.int (rows.length : Int)), b4] ∧ Q (.int (rows.length : Int)) H4) (fun N hN => ?_) (fun s1 H4 m => ?_)
    · simp [and_assoc, e3 _ _ hk]
      refine ⟨k, wp, l, p', l', ds, ds2, rows, rows3, rfl, KA.up e3, W3, G3, fun rf dx' H4 e4 hk4 => hN _ _ ⟨rfl, ?_⟩, fun a b c d z r dd H4 nd e4 hr hd => out.1 a b c d z r dd H4 (fresh_back e3 nd) (e3.trans e4) hr hd⟩
      exact out.2 rf p' l' ds2 _ nl ((But.of_ex (e3.trans e4)).updT (by simp)) ⟨⟨dx', upd_same⟩, (W3.up e4).updK hk4 (fun e => by rw [e, hk] at np; cases np), G3⟩
    obtain ⟨rfl, q⟩ := m
    simp
    exact q
end
end Jk

namespace Jk
open PySem L2 Evl

/-! ## the law's own: which points are near -/
def WebPrs (n : Nat) (prs : List (Int × Int)) : Prop := prs.Nodup ∧ ∀ p ∈ prs, ∃ i j : Nat, p = ((i : Int), (j : Int)) ∧ i < j ∧ j < n
def near1 (i : Int) (p : Int × Int) : Option Int := if p.1 = i then some p.2 else if p.2 = i then some p.1 else none
def nearL (prs : List (Int × Int)) (i : Int) : List Int := prs.filterMap (near1 i)
theorem nearL_snoc (l : List (Int × Int)) (p : Int × Int) (i : Int) : nearL (l ++ [p]) i = nearL l i ++ (if p.1 = i then [p.2] else if p.2 = i then [p.1] else []) := by
  unfold nearL
  rw [List.filterMap_append]
  congr 1
  by_cases h1 : p.1 = i
  · simp [near1, h1]
  · by_cases h2 : p.2 = i
    · simp [near1, h1, h2]
    · simp [near1, h1, h2]
theorem nearL_mem {prs : List (Int × Int)} {i j : Int} : j ∈ nearL prs i ↔ ((i, j) ∈ prs ∨ ((j, i) ∈ prs ∧ j ≠ i) ∨ ((j, i) ∈ prs ∧ j = i)) := by
  unfold nearL
  rw [List.mem_filterMap]
  constructor
  · rintro ⟨⟨a, b⟩, hp, h⟩
    unfold near1 at h
    simp only at h
    split at h
    · next e => cases h; subst e; exact .inl hp
    · next e =>
      split at h
      · next e2 => cases h; subst e2; exact .inr (.inl ⟨hp, e⟩)
      · cases h
  · rintro (h | ⟨h, ne⟩ | ⟨h, rfl⟩)
    · exact ⟨(i, j), h, by unfold near1; simp⟩
    · exact ⟨(j, i), h, by unfold near1; simp [ne]⟩
    · exact ⟨(j, j), h, by unfold near1; simp⟩
theorem nearL_iff {prs : List (Int × Int)} {i j : Int} : j ∈ nearL prs i ↔ ((i, j) ∈ prs ∨ (j, i) ∈ prs) := by
  rw [nearL_mem]
  constructor
  · rintro (h | h | h)
    · exact .inl h
    · exact .inr h.1
    · exact .inr h.1
  · rintro (h | h)
    · exact .inl h
    · by_cases e : j = i
      · exact .inr (.inr ⟨h, e⟩)
      · exact .inr (.inl ⟨h, e⟩)
theorem WebPrs.lt {n : Nat} {prs : List (Int × Int)} (W : WebPrs n prs) {p : Int × Int} (h : p ∈ prs) : 0 ≤ p.1 ∧ p.1 < p.2 ∧ p.2 < n := by
  obtain ⟨i, j, rfl, h1, h2⟩ := W.2 p h
  refine ⟨?_, ?_, ?_⟩ <;> simp <;> omega
theorem nearL_in {n : Nat} {prs : List (Int × Int)} (W : WebPrs n prs) {i j : Int} (h : j ∈ nearL prs i) : (0 ≤ j ∧ j < n) ∧ 0 ≤ i ∧ i < n ∧ i ≠ j := by
  rcases nearL_iff.mp h with z | z
  · have := W.lt z; simp only at this; omega
  · have := W.lt z; simp only at this; omega
theorem nearL_nd {n : Nat} {prs : List (Int × Int)} (W : WebPrs n prs) (i : Int) : (nearL prs i).Nodup := by
  have go : ∀ m : Nat, (nearL (prs.take m) i).Nodup := fun m => by
    induction m with
    | zero => simp [nearL]
    | succ m ih =>
      cases h : prs[m]? with
      | none =>
        have := List.getElem?_eq_none_iff.mp h
        rw [List.take_of_length_le (by omega)]
        rw [List.take_of_length_le this] at ih
        exact ih
      | some p =>
        rw [take_one h, nearL_snoc]
        have lt := W.lt (List.mem_of_getElem? h)
        have nd : (prs.take (m + 1)).Nodup := W.1.sublist (List.take_sublist _ _)
        rw [take_one h] at nd
        have np : p ∉ prs.take m := fun z => (List.nodup_append.mp nd).2.2 _ z _ (by simp) rfl
        have nq : (p.2, p.1) ∉ prs.take m := fun z => by have := W.lt (List.mem_of_mem_take z); simp only at this; omega
        split
        · next e =>
          subst e
          refine List.nodup_append.mpr ⟨ih, by simp, fun a ha b hb e => ?_⟩
          simp at hb
          subst hb e
          rcases nearL_iff.mp ha with z | z
          · exact np z
          · exact nq z
        · split
          · next e =>
            subst e
            refine List.nodup_append.mpr ⟨ih, by simp, fun a ha b hb e => ?_⟩
            simp at hb
            subst hb e
            rcases nearL_iff.mp ha with z | z
            · exact nq z
            · exact np z
          · rw [List.append_nil]; exact ih
  have := go prs.length
  rwa [List.take_length] at this
theorem nearL_len {n : Nat} {prs : List (Int × Int)} (W : WebPrs n prs) (i : Int) : (nearL prs i).length ≤ n := nd_len (nearL_nd W i) fun j hj => (nearL_in W hj).1
def nears (n : Nat) (prs : List (Int × Int)) : List (List Int) := (List.range n).map fun (i : Nat) => nearL prs (i : Int)
theorem nears_get {n : Nat} {prs : List (Int × Int)} {i : Nat} (h : i < n) : (nears n prs)[i]? = some (nearL prs (i : Int)) := by
  unfold nears
  rw [List.getElem?_map, List.getElem?_range h]
  rfl
theorem nears_len (n : Nat) (prs : List (Int × Int)) : (nears n prs).length = n := by simp [nears]
theorem nears_step {n : Nat} {l : List (Int × Int)} {i j : Nat} (hij : i < j) (hj : j < n) : ((nears n l).set i (nearL l i ++ [(j : Int)])).set j (nearL l j ++ [(i : Int)]) = nears n (l ++ [((i : Int), (j : Int))]) := by
  apply List.ext_getElem?
  intro a
  rw [List.getElem?_set, List.getElem?_set, List.length_set, nears_len]
  rcases Nat.lt_or_ge a n with z | z
  · rw [nears_get z, nears_get z, nearL_snoc]
    simp only
    by_cases c1 : j = a
    · subst c1
      rw [if_pos rfl, if_pos hj, if_neg (by omega), if_pos rfl]
    · rw [if_neg c1]
      by_cases c2 : i = a
      · subst c2
        rw [if_pos rfl, if_pos (by omega), if_pos rfl]
      · rw [if_neg c2, if_neg (by omega), if_neg (by omega), List.append_nil]
  · rw [if_neg (by omega), if_neg (by omega), List.getElem?_eq_none (by rw [nears_len]; omega), List.getElem?_eq_none (by rw [nears_len]; omega)]
theorem LsLL.push {H : Hp} {l a : Addr} {lss : List (List Int)} {as : List Addr} {i : Nat} {ns : List Int} {x : Int} (h : LsLL H l lss as) (nd : as.Nodup) (hi : as[i]? = some a) (hn : lss[i]? = some ns) (la : l ≠ a) :
    LsLL (upd H a (.lst ((ns ++ [x]).map V.int))) l (lss.set i (ns ++ [x])) as := by
  refine ⟨by rw [upd_ne la]; exact h.at', by rw [List.length_set]; exact h.len, fun j b ls hb hl => ?_⟩
  rw [List.getElem?_set] at hl
  by_cases c : i = j
  · subst c
    rw [hi] at hb
    cases hb
    rw [if_pos rfl, if_pos (lt_of_get hn)] at hl
    cases hl
    exact upd_same
  · rw [if_neg c] at hl
    have : b ≠ a := fun e => by
      subst e
      exact c ((List.getElem?_inj (lt_of_get hi) nd).mp (hi.trans hb.symm))
    unfold LsI
    rw [upd_ne this]
    exact h.all j b ls hb hl
def spNear : Sp := fun vs H Q _ => ∃ (n : Nat) (q : Addr) (prs : List (Int × Int)), vs = [.int (n : Int), .ref q] ∧ n ≤ 40 ∧ LsP H q prs ∧ WebPrs n prs ∧ prs.length ≤ 2000 ∧
  ∀ r as H', H r = none → (∀ a ∈ as, H a = none) → Ex H H' → LsLL H' r (nears n prs) as → Q (.ref r) H'
section
variable {P : Program} {w : World} {K : PySem.W.Frag} {mg : Str → Option Value} {base : Heap} {A : Adr}
theorem ok_l_near (T : Txt K mg A) : FnOk P w K mg base CX0 1 A.a_l_near A.d_l_near ["_law_many", "_law_ties_here"] spNear := by
  refine T.F_l_near.ok sc_l_near (fun vs H Q E h => ?_) (fun cdv C outer s H vs Q E hr h => ?_)
  · obtain ⟨n, q, prs, rfl, _⟩ := h
    rfl
  · obtain ⟨n, q, prs, rfl, n40, ⟨us, hu1, hu2⟩, wp, few, k⟩ := h
    refine ⟨_, (pss_cons (ps_setLc (i := 2) (own := [("_law_point", 5)]) rfl sc_l_near.nd rfl rfl (sw_true rfl rfl rfl (by decide +kernel)) (pi_range1 rfl T.range (pa_cons (pv 0) pa_nil)) (blkOk_by (own := [("_law_point", 5)]) (N := ["_law_many", "_law_ties_here", "_law_near_here", "_law_one", "_law_other", "_law_point"]) (sc := defScope s_l_near) (by decide +kernel)) (fun _ _ _ _ _ => by exact (pg_name (i := 5) sc_l_near.nd rfl (Or.inl rfl))) (fun _ _ _ _ _ => by exact pts_nil) (fun _ _ _ _ _ => by exact (pe_lstJ pa_nil)))
  (pss_cons (ps_for PassesOwn.never rfl (pi_list (pv 1)) (pg_tupJ (n := 2) rfl (pgs_cons (pg_name (i := 3) sc_l_near.nd rfl (.inl rfl)) (pgs_cons (pg_name (i := 4) sc_l_near.nd rfl (.inl rfl)) pgs_nil)))
    (pss_cons (ps_expr (pe_bmL PySem.F.slot_list_append PySem.F.type_list_append mt_append (pe_ix ix_listJ (pv 2) (pv 3) (fun _ _ => rfl)) (pa_cons (pv 4) pa_nil)))
      (pss_one (ps_expr (pe_bmL PySem.F.slot_list_append PySem.F.type_list_append mt_append (pe_ix ix_listJ (pv 2) (pv 4) (fun _ _ => rfl)) (pa_cons (pv 3) pa_nil))))))
  (pss_one (ps_ret (pv 2))))), ?_⟩
    refine seq_by (fun σ1 H1 => ∃ (r : Addr) (as : List Addr), σ1 = [some (.int (n : Int)), some (.ref q), some (.ref r), none, none, none] ∧ Ex H H1 ∧ H r = none ∧ LsLL H1 r (nears n []) as ∧ as.Nodup ∧ (∀ a ∈ as, H a = none ∧ a ≠ r)) (fun N hN => ?_) (fun s1 H1 m => ?_)
    · refine ⟨_, rfl, n, rfl, by omega, by omega, fun D hD => ?_⟩
      refine lc_range (lo := 0) (n := n) (CompI D H fun k acc H' => ∃ ds : List Addr, acc = ds.map V.ref ∧ ds.length = k ∧ ds.Nodup ∧ ∀ d ∈ ds, H' d = some (.lst []) ∧ H d = none ∧ d ≠ D) ⟨Ex.new hD, [], upd_same, by simp, [], rfl, rfl, List.nodup_nil, fun d z => nomatch z⟩ (fun k H' hk c => ?_) (fun H' c => ?_)
      · obtain ⟨e, acc, g1, g2, ds, g3, g4, g5, g6⟩ := c
        simp [wipe, tYes]
        intro d H2 hd e2 hd2
        have ne : d ≠ D := fun z => by rw [z, g1] at hd; cases hd
        refine CompI.push hD (e.trans e2) (e2 _ _ g1) (by rw [g3, List.length_map]; omega) ⟨ds ++ [d], by rw [g3, List.map_append]; rfl, by rw [List.length_append, g4]; rfl, nd_snoc g5 (fun z => by rw [(g6 d z).1] at hd; cases hd), fun d' z => ?_⟩
        rcases List.mem_append.mp z with z | z
        · have y := e2 _ _ (g6 d' z).1
          rw [upd_ne (g6 d' z).2.2]
          exact ⟨y, (g6 d' z).2⟩
        · have z' : d' = d := by simpa using z
          subst z'
          rw [upd_ne ne]
          exact ⟨hd2, fresh_back e hd, ne⟩
      · obtain ⟨e, acc, g1, g2, ds, g3, g4, g5, g6⟩ := c
        subst g3
        refine hN _ _ ⟨D, ds, rfl, e, hD, ⟨g1, by rw [g4, nears_len], fun i a ls ha hl => ?_⟩, g5, fun a ha => ⟨(g6 a ha).2.1, (g6 a ha).2.2⟩⟩
        have : ls = [] := by
          have lt := lt_of_get hl
          rw [nears_len] at lt
          rw [nears_get lt] at hl
          cases hl
          rfl
        subst this
        exact (g6 a (List.mem_of_getElem? ha)).1
    obtain ⟨r, as, rfl, e1, nr, hr1, and', fr⟩ := m
    refine seq_by (fun σ1 H2 => ∃ b3 b4, σ1 = [some (.int (n : Int)), some (.ref q), some (.ref r), b3, b4, none] ∧ Ex H H2 ∧ LsLL H2 r (nears n prs) as) (fun N hN => ?_) (fun s1 H2 m => ?_)
    · refine ⟨_, rfl, q, rfl, ⟨_, .inl (.inl (e1 _ _ hu1))⟩, for_list (xs := us.map V.ref) (fun m σ H' => ∃ b3 b4, σ = [some (.int (n : Int)), some (.ref q), some (.ref r), b3, b4, none] ∧ Ex H H' ∧ LsLL H' r (nears n (prs.take m)) as) ⟨none, none, rfl, e1, hr1⟩ (fun m σ H' _ h => ?_) (fun m x σ H' hx h => ?_) (fun σ H' h => ?_)⟩
      · obtain ⟨_, _, rfl, e, _⟩ := h
        exact .inl (.inl (e _ _ hu1))
      · obtain ⟨b3, b4, rfl, e, hl⟩ := h
        rw [List.getElem?_map] at hx
        cases ht0 : us[m]? with
        | none => rw [ht0] at hx; cases hx
        | some t =>
          rw [ht0] at hx
          cases hx
          have hm : m < prs.length := by rw [← hu2.1]; exact lt_of_get ht0
          have hp0 := List.getElem?_eq_getElem hm
          obtain ⟨i, j, hp, hij, hj⟩ := wp.2 _ (List.mem_of_getElem? hp0)
          have htup := e _ _ (hu2.2 m t _ ht0 hp0)
          rw [hp] at htup hp0
          have al : as.length = n := by rw [hl.len, nears_len]
          have gi := List.getElem?_eq_getElem (l := as) (i := i) (by omega)
          have gj := List.getElem?_eq_getElem (l := as) (i := j) (by omega)
          have hi1 := hl.all i _ _ gi (nears_get (by omega))
          have hj1 := hl.all j _ _ gj (nears_get (by omega))
          have fi := fr _ (List.mem_of_getElem? gi)
          have fj := fr _ (List.mem_of_getElem? gj)
          have lw : (nearL (prs.take m) i).length ≤ 2000 ∧ (nearL (prs.take m) j).length ≤ 2000 := by
            have z : (prs.take m).length ≤ 2000 := by rw [List.length_take]; omega
            exact ⟨Nat.le_trans (List.length_filterMap_le _ _) z, Nat.le_trans (List.length_filterMap_le _ _) z⟩
          have hl0 := hl.at'
          simp [and_assoc, htup, hl0, gi, gj]
          have hli := hl.push (x := (j : Int)) and' gi (nears_get (by omega)) (fun z => fi.2 z.symm)
          have hr2 := hli.at'
          rw [List.map_append] at hli hr2
          have nij : as[j] ≠ as[i] := fun z => by
            have := (List.getElem?_inj (lt_of_get gj) and').mp (gj.trans ((congrArg some z).trans gi.symm))
            omega
          refine ⟨⟨_, hi1⟩, _, hi1, by rw [List.length_map]; exact lt_line (by omega), _, hr2, _, by rw [List.getElem?_map, gj]; rfl, ⟨_, rfl, _, by rw [upd_ne nij]; exact hj1⟩, ?_⟩
          rw [j_app]
          have gj2 : ((nears n (prs.take m)).set i (nearL (prs.take m) i ++ [(j : Int)]))[j]? = some (nearL (prs.take m) j) := by
            rw [List.getElem?_set, if_neg (by omega), nears_get (by omega)]
          have hlj := hli.push (x := (i : Int)) and' gj gj2 (fun z => fj.2 z.symm)
          refine ⟨_, by rw [upd_ne nij]; exact hj1, by rw [List.length_map]; exact lt_line (by omega), ex_upd (ex_upd e fi.1) fj.1, ?_⟩
          rw [nears_step hij hj, ← take_one hp0] at hlj
          rw [List.map_append] at hlj
          exact hlj
      · obtain ⟨b3, b4, rfl, e, hl⟩ := h
        rw [List.length_map, hu2.1, List.take_length] at hl
        exact hN _ _ ⟨b3, b4, rfl, e, hl⟩
    obtain ⟨b3, b4, rfl, e2, hl⟩ := m
    simp
    exact k r as H2 nr (fun a ha => (fr a ha).1) e2 hl
end
end Jk

namespace Jk
open PySem L2 Evl

/-! ## the law's own: whether there is a row -/
/-- tied by the pairs -/
def tieP (prs : List (Int × Int)) (i j : Int) : Bool := decide (j ∈ nearL prs i)
theorem tieP_sym (prs : List (Int × Int)) (i j : Int) : tieP prs i j = tieP prs j i := by
  unfold tieP
  rw [decide_eq_decide, nearL_iff, nearL_iff]
  constructor <;> rintro (h | h) <;> first | exact .inl h | exact .inr h
theorem tieP_iff {prs : List (Int × Int)} {i j : Int} : tieP prs i j = true ↔ j ∈ nearL prs i := by unfold tieP; exact decide_eq_true_iff
def HasRow (prs : List (Int × Int)) : Prop := ∃ a b c d, RowR (tieP prs) a b c d
def spHasRow : Sp := fun vs H Q _ => ∃ (n : Nat) (q : Addr) (prs : List (Int × Int)), vs = [.int (n : Int), .ref q] ∧ n ≤ 40 ∧ LsP H q prs ∧ WebPrs n prs ∧ prs.length ≤ 2000 ∧
  ∀ b H', (b = true ↔ HasRow prs) → Ex H H' → Q (.bl b) H'
section
variable {P : Program} {w : World} {K : PySem.W.Frag} {mg : Str → Option Value} {base : Heap} {A : Adr}
theorem ok_l_has_row (T : Txt K mg A) : FnOk P w K mg base CX0 2 A.a_l_has_row A.d_l_has_row ["_law_many", "_law_ties_here"] spHasRow := by
  refine T.F_l_has_row.ok sc_l_has_row (fun vs H Q E h => ?_) (fun cdv C outer s H vs Q E hr h => ?_)
  · obtain ⟨n, q, prs, rfl, _⟩ := h
    rfl
  · obtain ⟨n, q, prs, rfl, n40, hq, wp, few, k⟩ := h
    obtain ⟨us, hu1, hu2⟩ := id hq
    refine ⟨_, (pss_cons (ps_set (i := 2) sc_l_has_row.nd rfl (Or.inr rfl) (pe_call (ok_l_near T) (hr.mono (by omega)) rfl T.g_l_near T.k_l_near T.b_l_near .nil pass0 (pa_cons (pv 0) (pa_cons (pv 1) pa_nil))))
  (pss_cons (ps_for PassesOwn.never rfl (pi_list (pv 1)) (pg_name (i := 3) sc_l_has_row.nd rfl (.inl rfl))
    (pss_one (ps_for PassesOwn.never rfl (pi_tup (pe_tupJ (pa_cons (pv 3) (pa_cons (pe_sliceRevT (K0 := K) (pv 3) (po_some (pe_un un_neg pe_int))) pa_nil)))) (pg_tupJ (n := 2) rfl (pgs_cons (pg_name (i := 4) sc_l_has_row.nd rfl (.inr rfl)) (pgs_cons (pg_name (i := 5) sc_l_has_row.nd rfl (.inl rfl)) pgs_nil)))
        (pss_cons (ps_setLc (i := 6) (own := [("_law_point", 8)]) rfl sc_l_has_row.nd rfl rfl (sw_true rfl rfl rfl (by decide +kernel)) (pi_list (pe_ix ix_listJ (pv 2) (pv 5) (fun _ _ => rfl))) (blkOk_by (own := [("_law_point", 8)]) (N := ["_law_many", "_law_ties_here", "_law_near_here", "_law_pair", "_law_two", "_law_three", "_law_last", "_law_first", "_law_point"]) (sc := defScope s_l_has_row) (by decide +kernel)) (fun _ _ _ _ _ => by exact (pg_name (i := 8) sc_l_has_row.nd rfl (Or.inl rfl))) (fun _ _ _ _ _ => by exact (pts_one (PW.pt (pw_and (pt_cmpR op_ne (pv 8) (pv 4) (nomark _)) (pw_and1 (pt_cmpR op_notInI (pv 8) (pe_ix ix_listJ (pv 2) (pv 4) (fun _ _ => rfl)) (by rfl))))))) (fun _ _ _ _ _ => by exact (pv 8)))
          (pss_one (ps_for PassesOwn.never rfl (pi_list (pe_ix ix_listJ (pv 2) (pv 4) (fun _ _ => rfl))) (pg_name (i := 7) sc_l_has_row.nd rfl (.inr rfl))
            (pss_cons (ps_if (PW.pt (pw_or (pt_cmpR op_eq (pv 7) (pv 5) (nomark _)) (pw_or1 (pt_cmpR op_inI (pv 7) (pe_ix ix_listJ (pv 2) (pv 5) (fun _ _ => rfl)) (by rfl)))))
                (pss_one ps_continue)
                pss_nil)
              (pss_one (ps_if (pt_cmpR (op_neI hr.units) (pe_lc (own := [("_law_point", 8)]) rfl sc_l_has_row.nd (pi_list (pv 6)) (blkOk_by (own := [("_law_point", 8)]) (N := ["_law_many", "_law_ties_here", "_law_near_here", "_law_pair", "_law_two", "_law_three", "_law_last", "_law_first", "_law_point"]) (sc := defScope s_l_has_row) (by decide +kernel)) (fun _ _ _ _ _ => by exact (pg_name (i := 8) sc_l_has_row.nd rfl (Or.inl rfl))) (fun _ _ _ _ _ => by exact (pts_one (pt_cmpR op_notInI (pv 8) (pe_ix ix_listJ (pv 2) (pv 7) (fun _ _ => rfl)) (by rfl)))) (fun _ _ _ _ _ => by exact (pv 8))) (pe_lstJ pa_nil) (nomark _))
                (pss_one (ps_ret pe_bl))
                pss_nil)))))))))
  (pss_one (ps_ret pe_bl)))), ?_⟩
    refine seq_by (fun σ1 H1 => ∃ (r : Addr) (as : List Addr), σ1 = [some (.int (n : Int)), some (.ref q), some (.ref r), none, none, none, none, none, none] ∧ Ex H H1 ∧ LsLL H1 r (nears n prs) as) (fun N hN => ?_) (fun s1 H1 m => ?_)
    · simp [L2.start]
      exact ⟨n, q, prs, rfl, n40, hq, wp, few, fun r as H1 _ _ e1 h1 => hN _ _ ⟨r, as, rfl, e1, h1⟩⟩
    obtain ⟨r, as, rfl, e1, hr1⟩ := m
    have al : as.length = n := by rw [hr1.len, nears_len]
    have row : ∀ (i : Int), 0 ≤ i → i < n → ∀ H', Ex H1 H' → ∃ a, (as.map V.ref)[i.toNat]? = some (.ref a) ∧ LsI H' a (nearL prs i) := fun i h0 h1 H' e => by
      have g := List.getElem?_eq_getElem (l := as) (i := i.toNat) (by omega)
      refine ⟨_, by rw [List.getElem?_map, g]; rfl, ?_⟩
      have := (hr1.up e).all _ _ _ g (nears_get (n := n) (by omega))
      rwa [Int.toNat_of_nonneg h0] at this
    have lnn : ∀ i, (nearL prs i).length ≤ 40 := fun i => by have := nearL_len wp i; omega
    let NoAt : Int → Int → Prop := fun b c => ∀ a d, ¬ RowR (tieP prs) a b c d
    refine seq_by (fun σ1 H2 => Ex H H2 ∧ ∀ p ∈ prs, NoAt p.1 p.2 ∧ NoAt p.2 p.1) (fun N hN => ?_) (fun s1 H2 m => ?_)
    rotate_left
    · obtain ⟨e2, no⟩ := m
      refine k false H2 ⟨fun z => (by cases z), fun ⟨a, b, c, d, z⟩ => ?_⟩ e2
      have := tieP_iff.mp z.2.1
      rcases nearL_iff.mp this with y | y
      · exact absurd z ((no _ y).1 a d)
      · exact absurd z ((no _ y).2 a d)
    refine ⟨_, rfl, q, rfl, ⟨_, .inl (.inl (e1 _ _ hu1))⟩, for_list (xs := us.map V.ref) (fun m σ H' => ∃ b3 b4 b5 b6 b7, σ = [some (.int (n : Int)), some (.ref q), some (.ref r), b3, b4, b5, b6, b7, none] ∧ Ex H1 H' ∧ ∀ p ∈ prs.take m, NoAt p.1 p.2 ∧ NoAt p.2 p.1) ⟨none, none, none, none, none, rfl, Ex.refl _, fun p hp => (by cases hp)⟩ (fun m σ H' _ h => ?_) (fun m x σ H' hx h => ?_) (fun σ H' h => ?_)⟩
    · obtain ⟨_, _, _, _, _, rfl, e, _⟩ := h
      exact .inl (.inl ((e1.trans e) _ _ hu1))
    rotate_left
    · obtain ⟨_, _, _, _, _, rfl, e, no⟩ := h
      rw [List.length_map, hu2.1, List.take_length] at no
      exact hN _ _ ⟨e1.trans e, no⟩
    obtain ⟨b3, b4, b5, b6, b7, rfl, e, no⟩ := h
    rw [List.getElem?_map] at hx
    cases ht0 : us[m]? with
    | none => rw [ht0] at hx; cases hx
    | some t =>
      rw [ht0] at hx
      cases hx
      have hm : m < prs.length := by rw [← hu2.1]; exact lt_of_get ht0
      have hp0 := List.getElem?_eq_getElem hm
      have hpin := List.mem_of_getElem? hp0
      have htup := (e1.trans e) _ _ (hu2.2 m t _ ht0 hp0)
      have plt := wp.lt hpin
      rw [take_one hp0]
      generalize prs[m] = p at htup plt hpin
      obtain ⟨x, y⟩ := p
      rw [j_gname]
      refine ⟨_, rfl, _, rfl, 1, rfl, -1, rfl, rfl, t, _, rfl, .inl (.inl htup), fun t2 H3 n3 e3 h3 => ?_⟩
      refine ⟨by simp, fun p4 H4 n4 e4 h4 => ⟨p4, rfl, ⟨_, .inl (.inl h4)⟩, for_tup (xs := [.ref t, .ref t2]) (fun i σ H5 => ∃ b4 b5 b6 b7, σ = [some (.int (n : Int)), some (.ref q), some (.ref r), some (.ref t), b4, b5, b6, b7, none] ∧ Ex H4 H5 ∧ (1 ≤ i → NoAt x y) ∧ (2 ≤ i → NoAt y x)) ⟨b4, b5, b6, b7, rfl, Ex.refl _, fun z => by omega, fun z => by omega⟩ (fun i σ H5 _ h => ?_) (fun i z σ H5 hz h => ?_) (fun σ H5 h => ?_)⟩⟩
      · obtain ⟨_, _, _, _, rfl, e5, _⟩ := h
        exact .inl (.inl (e5 _ _ h4))
      rotate_left
      · obtain ⟨b4, b5, b6, b7, rfl, e5, n1, n2⟩ := h
        refine ⟨_, _, _, _, _, rfl, e.trans (e3.trans (e4.trans e5)), fun p hp => ?_⟩
        rcases List.mem_append.mp hp with h | h
        · exact no p h
        · simp at h
          subst h
          exact ⟨n1 (by show 1 ≤ 2; omega), n2 (by show 2 ≤ 2; omega)⟩
      obtain ⟨b4, b5, b6, b7, rfl, e5, n1, n2⟩ := h
      have e15 := e.trans (e3.trans (e4.trans e5))
      obtain ⟨tt, u, v, rfl, htt, huv⟩ : ∃ (tt : Addr) (u v : Int), z = .ref tt ∧ H5 tt = some (.tup [.int u, .int v]) ∧ ((i = 0 ∧ u = x ∧ v = y) ∨ (i = 1 ∧ u = y ∧ v = x)) := by
        match i, hz with
        | 0, hz => cases hz; exact ⟨t, x, y, rfl, (e3.trans (e4.trans e5)) _ _ htup, .inl ⟨rfl, rfl, rfl⟩⟩
        | 1, hz => cases hz; exact ⟨t2, y, x, rfl, (e4.trans e5) _ _ h3, .inr ⟨rfl, rfl, rfl⟩⟩
        | _ + 2, hz => cases hz
      have huvr : (0 ≤ u ∧ u < n) ∧ 0 ≤ v ∧ v < n := by
        simp only at plt
        omega
      have tuv : tieP prs u v = true := tieP_iff.mpr (nearL_iff.mpr (by rcases huv with ⟨_, rfl, rfl⟩ | ⟨_, rfl, rfl⟩; exact .inl hpin; exact .inr hpin))
      refine ⟨_, _, rfl, htt, rfl, ?_⟩
      rw [j_gcons, j_gname, j_gcons, j_gname, j_gnil]
      refine seq_by (fun σ1 H6 => ∃ ll, σ1 = [some (.int (n : Int)), some (.ref q), some (.ref r), some (.ref t), some (.int u), some (.int v), some (.ref ll), b7, none] ∧ Ex H5 H6 ∧ LsI H6 ll ((nearL prs v).filter fun z => !decide (z = u) && !decide (z ∈ nearL prs u))) (fun N2 hN2 => ?_) (fun s1 H6 m => ?_)
      · obtain ⟨av, gv, hv⟩ := row v huvr.2.1 huvr.2.2 H5 e15
        refine ⟨_, rfl, _, rfl, r, as.map V.ref, v, .ref av, rfl, rfl, (hr1.up e15).at', huvr.2.1, gv, av, rfl, ⟨_, .inl (.inl hv)⟩, fun D hD => lc_intsF (g := gName 8) (tt := tAnd (tTest (tOp rNe (tVar 8) (tVar 4))) (tTest (tOp jNotInI (tVar 8) (tOp jIxL (tVar 2) (tVar 4))))) (te := tVar 8) (nearL prs v) (fun z => !decide (z = u) && !decide (z ∈ nearL prs u)) hD (.inl (.inl hv)) (by have := lnn v; omega) (fun i z H6 hz e6 => ?_) (fun x σ H Q Q' m q => m _ _ q) (fun H6 e6 h6 => hN2 _ _ ⟨D, rfl, e6, h6⟩)⟩
        rw [j_gname]
        refine ⟨by simp [wipe], fun N' hN' => ?_, fun H7 N' q => (by simp [wipe]; exact q)⟩
        obtain ⟨au, gu, hu'⟩ := row u huvr.1.1 huvr.1.2 H6 (e15.trans e6)
        have hr6 := (hr1.up (e15.trans e6)).at'
        have f := hN' H6 (Ex.refl _)
        simp only [j_and, j_test, j_op, j_var, wipe]
        refine ⟨.int z, rfl, .int u, rfl, ?_⟩
        rw [j_ne_ii]
        refine ⟨_, rfl, ?_⟩
        by_cases c : z = u
        · rw [if_neg (by simp [c])]
          rw [decide_eq_true c] at f
          exact f
        · rw [if_pos (by simp [c])]
          rw [decide_eq_false c] at f
          exact ⟨.int z, rfl, .ref r, rfl, .int u, rfl, r, _, u, .ref au, rfl, rfl, hr6, huvr.1.1, gu, z, au, rfl, rfl, _, hu', _, rfl, f⟩
      obtain ⟨ll, rfl, e6, hll⟩ := m
      have e16 := e15.trans e6
      obtain ⟨au, gu, hau⟩ := row u huvr.1.1 huvr.1.2 H6 e16
      refine ⟨_, rfl, _, rfl, r, as.map V.ref, u, .ref au, rfl, rfl, (hr1.up e16).at', huvr.1.1, gu, au, rfl, ⟨_, .inl (.inl hau)⟩, for_list (xs := (nearL prs u).map V.int) (fun j σ H' => ∃ b7, σ = [some (.int (n : Int)), some (.ref q), some (.ref r), some (.ref t), some (.int u), some (.int v), some (.ref ll), b7, none] ∧ Ex H6 H' ∧ ∀ a ∈ (nearL prs u).take j, ∀ d, ¬ RowR (tieP prs) a u v d) ⟨b7, rfl, Ex.refl _, fun a ha => (by cases ha)⟩ (fun j σ H' _ h => ?_) (fun j z σ H' hz h => ?_) (fun σ H' h => ?_)⟩
      · obtain ⟨_, rfl, e7, _⟩ := h
        exact .inl (.inl (e7 _ _ hau))
      rotate_left
      · obtain ⟨b7, rfl, e7, no7⟩ := h
        rw [List.length_map, List.take_length] at no7
        have na : NoAt u v := fun a d z => no7 a (by have := z.1; rw [tieP_sym] at this; exact tieP_iff.mp this) d z
        refine ⟨_, _, _, _, rfl, e5.trans (e6.trans e7), fun h1 => ?_, fun h2 => ?_⟩
        · rcases huv with ⟨_, rfl, rfl⟩ | ⟨i1, rfl, rfl⟩
          · exact na
          · exact n1 (by omega)
        · rcases huv with ⟨i0, rfl, rfl⟩ | ⟨i1, rfl, rfl⟩
          · omega
          · exact na
      obtain ⟨b7, rfl, e7, no7⟩ := h
      rw [List.getElem?_map] at hz
      cases hc : (nearL prs u)[j]? with
      | none => rw [hc] at hz; cases hz
      | some a =>
        rw [hc] at hz
        cases hz
        have ha := List.mem_of_getElem? hc
        have ina := (nearL_in wp ha).1
        have e17 := e16.trans e7
        have next : (∀ d, ¬ RowR (tieP prs) a u v d) → ∀ a' ∈ (nearL prs u).take (j + 1), ∀ d, ¬ RowR (tieP prs) a' u v d := fun h a' ha' => by
          rw [take_one hc] at ha'
          rcases List.mem_append.mp ha' with z | z
          · exact no7 a' z
          · simp at z
            subst z
            exact h
        obtain ⟨av, gv, hv⟩ := row v huvr.2.1 huvr.2.2 H' e17
        have hr7 := (hr1.up e17).at'
        rw [j_gname]
        refine seq_by (fun σ1 H8 => σ1 = [some (.int (n : Int)), some (.ref q), some (.ref r), some (.ref t), some (.int u), some (.int v), some (.ref ll), some (.int a), none] ∧ H' = H8 ∧ tieP prs a v = false) (fun N3 hN3 => ?_) (fun s1 H8 m => ?_)
        · simp [and_assoc]
          by_cases c : a = v
          · exact .inr ⟨c, e7, next fun d z => by
              subst c
              have y := z.2.2.2.2.1
              rw [z.2.2.1] at y
              cases y⟩
          · refine .inl ⟨c, _, hr7, huvr.2.1, _, gv, ?_⟩
            rw [j_inI]
            refine ⟨_, hv, ?_⟩
            by_cases c2 : a ∈ nearL prs v
            · refine .inr ⟨by simp [c2], e7, next fun d z => ?_⟩
              have y := z.2.2.2.1
              rw [tieP_sym, tieP_iff.mpr c2] at y
              cases y
            · refine .inl ⟨by simp [c2], hN3 _ _ ⟨rfl, rfl, ?_⟩⟩
              rw [tieP_sym]
              unfold tieP
              exact decide_eq_false c2
        obtain ⟨rfl, rfl, nav⟩ := m
        have hll7 := e7 _ _ hll
        refine ⟨_, rfl, ll, rfl, ⟨_, .inl (.inl hll7)⟩, fun D hD => lc_intsF (g := gName 8) (tt := tTest (tOp jNotInI (tVar 8) (tOp jIxL (tVar 2) (tVar 7)))) (te := tVar 8) ((nearL prs v).filter fun z => !decide (z = u) && !decide (z ∈ nearL prs u)) (fun z => !decide (z ∈ nearL prs a)) hD (.inl (.inl hll7)) (by have := lnn v; have := List.length_filter_le (fun z => !decide (z = u) && !decide (z ∈ nearL prs u)) (nearL prs v); omega) (fun i z H8 hz e8 => ?_) (fun x σ H Q Q' m q => m _ _ q) (fun H8 e8 h8 => ?_)⟩
        · rw [j_gname]
          refine ⟨by simp [wipe], fun N' hN' => ?_, fun H7 N' q => (by simp [wipe]; exact q)⟩
          obtain ⟨aa, ga, haa⟩ := row a ina.1 ina.2 H8 (e17.trans e8)
          exact ⟨.int z, rfl, .ref r, rfl, .int a, rfl, r, _, a, .ref aa, rfl, rfl, (hr1.up (e17.trans e8)).at', ina.1, ga, z, aa, rfl, rfl, _, haa, _, rfl, hN' H8 (Ex.refl _)⟩
        refine ⟨by simp, fun p5 H9 n9 e9 h9 => ⟨_, _, rfl, rfl, _, e9 _ _ h8, [], h9, _, rfl, ?_⟩⟩
        change (if (!decide (_ = [])) = true then _ else _)
        have hmem : ∀ d, d ∈ ((nearL prs v).filter fun z => !decide (z = u) && !decide (z ∈ nearL prs u)).filter (fun z => !decide (z ∈ nearL prs a)) ↔ d ∈ nearL prs v ∧ d ≠ u ∧ d ∉ nearL prs u ∧ d ∉ nearL prs a := fun d => by
          simp only [List.mem_filter, Bool.and_eq_true, Bool.not_eq_true', decide_eq_false_iff_not]
          exact ⟨fun ⟨⟨h1, h2, h3⟩, h4⟩ => ⟨h1, h2, h3, h4⟩, fun ⟨h1, h2, h3, h4⟩ => ⟨⟨h1, h2, h3⟩, h4⟩⟩
        generalize ((nearL prs v).filter fun z => !decide (z = u) && !decide (z ∈ nearL prs u)).filter (fun z => !decide (z ∈ nearL prs a)) = fl at hmem
        by_cases cf : fl = []
        · rw [if_neg (by simp [cf])]
          refine ⟨_, rfl, e7.trans (e8.trans e9), next fun d z => ?_⟩
          have f0 : ∀ x y, tieP prs x y = false → y ∉ nearL prs x := fun x y h => by unfold tieP at h; exact of_decide_eq_false h
          have : d ∈ fl := (hmem d).mpr ⟨tieP_iff.mp z.2.2.1, fun e => (by
            subst e
            have y := z.2.2.2.2.1
            rw [z.1] at y
            cases y), f0 _ _ z.2.2.2.2.2, f0 _ _ z.2.2.2.2.1⟩
          rw [cf] at this
          cases this
        · rw [if_pos (by simp [cf])]
          obtain ⟨d, hd⟩ := List.exists_mem_of_ne_nil _ cf
          obtain ⟨d1, d2, d3, d4⟩ := (hmem d).mp hd
          have f1 : ∀ x y, y ∉ nearL prs x → tieP prs x y = false := fun x y h => by unfold tieP; exact decide_eq_false h
          exact k true H9 ⟨fun _ => ⟨a, u, v, d, by rw [tieP_sym]; exact tieP_iff.mpr ha, tuv, tieP_iff.mpr d1, nav, f1 _ _ d4, f1 _ _ d3⟩, fun _ => rfl⟩ (e1.trans (e17.trans (e8.trans e9)))
end
end Jk

namespace Jk
open PySem L2 Evl

/-! ## the law's own dict of a kept web -/
def ownK (n : Nat) (q : Addr) : List (Key × V) := [(Sum.inr "many", .int (n : Int)), (Sum.inr "ties", .ref q)]
theorem own_many (n : Nat) (q : Addr) : valV (ownK n q) (Sum.inr ("many" : Str)) = some (.int (n : Int)) := by
  unfold ownK valV
  rw [List.find?_cons_of_pos (by simp)]
  rfl
theorem own_ties (n : Nat) (q : Addr) : valV (ownK n q) (Sum.inr ("ties" : Str)) = some (.ref q) := by
  unfold ownK valV
  rw [List.find?_cons_of_neg (by show ¬ decide ((Sum.inr ("many" : Str) : Key) = Sum.inr ("ties" : Str)) = true; decide +kernel), List.find?_cons_of_pos (by simp)]
  rfl
def isI : V → Bool
  | .int _ => true
  | _ => false
def spLWholeT : Sp := fun vs H Q _ => ∃ x : V, vs = [x] ∧ Thing H x ∧ Q (.bl (isI x)) H
def spIsPoint : Sp := fun vs H Q _ => ∃ (ow q : Addr) (n : Nat) (x : V), vs = [.ref ow, x] ∧ H ow = some (.dK (ownK n q)) ∧ Thing H x ∧ Q (.bl (inR x 0 ((n : Int) - 1))) H
section
variable {P : Program} {w : World} {K : PySem.W.Frag} {mg : Str → Option Value} {base : Heap} {A : Adr}
theorem ok_l_wholeT (T : Txt K mg A) : FnOk P w K mg base CX0 1 A.a_l_whole A.d_l_whole ["_law_thing"] spLWholeT := by
  refine T.F_l_whole.ok sc_l_whole (fun vs H Q E h => ?_) (fun cdv C outer s H vs Q E hr h => ?_)
  · obtain ⟨x, rfl, _⟩ := h
    rfl
  · obtain ⟨x, rfl, th, k⟩ := h
    refine ⟨_, (pss_one (ps_ret (pe_and (pe_callB call_isJ (by rfl) T.isinstance (by decide +kernel) (pa_cons (pv 0) (pa_cons (pe_bltn (v := .ty "int") (u := .type "int") (by rfl) T.int (by decide +kernel) rfl) pa_nil))) (pe_one (pe_not (pe_callB call_isJ (by rfl) T.isinstance (by decide +kernel) (pa_cons (pv 0) (pa_cons (pe_bltn (v := .ty "bool") (u := .type "bool") (by rfl) T.bool (by decide +kernel) rfl) pa_nil)))))))), ?_⟩
    cases th with
    | non => simp [L2.start]; exact k
    | bl b => simp [L2.start]; exact k
    | int i => simp [L2.start]; exact k
    | str s => simp [L2.start]; exact k
    | lst h => simp [L2.start, tyN_lst h]; exact k
    | tup h => simp [L2.start, tyN_tup h]; exact k
    | dK h => simp [L2.start, tyN_dK h]; exact k
theorem ok_l_is_point (T : Txt K mg A) : FnOk P w K mg base CX0 2 A.a_l_is_point A.d_l_is_point ["_law_own", "_law_thing"] spIsPoint := by
  refine T.F_l_is_point.ok sc_l_is_point (fun vs H Q E h => ?_) (fun cdv C outer s H vs Q E hr h => ?_)
  · obtain ⟨ow, q, n, x, rfl, _⟩ := h
    rfl
  · obtain ⟨ow, q, n, x, rfl, hw, th, k⟩ := h
    have hu := hu_of hr
    refine ⟨_, (pss_one (ps_ret (pe_and (pe_call (ok_l_wholeT T) (hr.mono (by omega)) rfl T.g_l_whole T.k_l_whole T.b_l_whole .nil pass0 (pa_cons (pv 1) pa_nil)) (pe_one (pe_chain op_le op_lt pe_int (pv 1) (pe_dgetJ (by exact hu) (pv 0) pe_str (fun _ _ => rfl))))))), ?_⟩
    simp [L2.start, and_assoc]
    refine ⟨x, rfl, th, ?_⟩
    cases x with
    | int i =>
      simp [isI, hw, own_many]
      change Q (.bl (decide (0 ≤ i ∧ i ≤ (n : Int) - 1))) H at k
      by_cases c : i < 0
      · exact .inl ⟨c, by rw [decide_eq_false (by omega)] at k; exact k⟩
      · refine .inr ⟨by omega, ?_⟩
        have e : decide (i < (n : Int)) = decide (0 ≤ i ∧ i ≤ (n : Int) - 1) := decide_eq_decide.mpr ⟨fun z => by omega, fun z => by omega⟩
        rw [e]
        exact k
    | _ =>
      simp [isI]
      exact k
end
end Jk

namespace Jk
open PySem L2 Evl

/-! ## what is due of a deed -/
def twoOk (n : Nat) (x y : V) : Bool := inR x 0 ((n : Int) - 1) && (inR y 0 ((n : Int) - 1) && !decide (x = y))
inductive DueR (H : Hp) (n : Nat) (prs : List (Int × Int)) : Str → V → V → Str → List (Int × Int) → Prop
  | many {x y : V} : n = 30 → DueR H n prs "grow" x y "many" []
  | gpoint {x y : V} : n < 30 → ¬ Unl H x n → DueR H n prs "grow" x y "point" []
  | grow {y : V} {a : Addr} {ns : List Int} : n < 30 → LsI H a ns → ns.Nodup → (∀ c ∈ ns, 0 ≤ c ∧ c < (n : Int)) → DueR H n prs "grow" (.ref a) y "" (prs ++ ns.map fun c => (c, (n : Int)))
  | point {wd : Str} {x y : V} : (wd = "put" ∨ wd = "take") → twoOk n x y = false → DueR H n prs wd x y "point" []
  | twice {i j : Nat} : i < n → j < n → i ≠ j → mmI i j ∈ prs → DueR H n prs "put" (.int i) (.int j) "twice" []
  | put {i j : Nat} : i < n → j < n → i ≠ j → mmI i j ∉ prs → DueR H n prs "put" (.int i) (.int j) "" (prs ++ [mmI i j])
  | take {i j : Nat} : i < n → j < n → i ≠ j → mmI i j ∈ prs → DueR H n prs "take" (.int i) (.int j) "" (prs.filter fun p => !decide (p = mmI i j))
  | notie {i j : Nat} : i < n → j < n → i ≠ j → mmI i j ∉ prs → DueR H n prs "take" (.int i) (.int j) "no tie" []
/-- a deed's own things -/
def DeedOk (H : Hp) (wd : Str) (x y : V) : Prop := (wd = "grow" ∧ Lst1 H x) ∨ ((wd = "put" ∨ wd = "take") ∧ Thing H x ∧ Thing H y)
def spDue : Sp := fun vs H Q _ => ∃ (ow dd q : Addr) (n : Nat) (prs : List (Int × Int)) (wd : Str) (x y : V), vs = [.ref ow, .ref dd] ∧ H ow = some (.dK (ownK n q)) ∧ LsP H q prs ∧ prs.length ≤ 900 ∧ 1 ≤ n ∧ n ≤ 30 ∧ H dd = some (.tup [.str wd, x, y]) ∧ DeedOk H wd x y ∧
  ∀ due qrs r ql H', DueR H n prs wd x y due qrs → H r = none → H ql = none → Ex H H' → H' r = some (.tup [.str due, .ref ql]) → LsP H' ql qrs → Q (.ref r) H'
theorem two_ints {n : Nat} {x y : V} (h : twoOk n x y = true) : ∃ i j : Nat, x = .int i ∧ y = .int j ∧ i < n ∧ j < n ∧ i ≠ j := by
  unfold twoOk at h
  simp only [Bool.and_eq_true, Bool.not_eq_true', decide_eq_false_iff_not] at h
  obtain ⟨h1, h2, h3⟩ := h
  cases x with
  | int i =>
    cases y with
    | int j =>
      unfold inR at h1 h2
      have h1 := of_decide_eq_true h1
      have h2 := of_decide_eq_true h2
      refine ⟨i.toNat, j.toNat, by rw [Int.toNat_of_nonneg h1.1], by rw [Int.toNat_of_nonneg h2.1], by omega, by omega, fun e => h3 ?_⟩
      have : i = j := by omega
      rw [this]
    | _ => cases h2
  | _ => cases h1
theorem mm_if (x y : Int) : ((if y < x then y else x), (if x < y then y else x)) = mmI x y := by
  unfold mmI
  refine Prod.ext ?_ ?_
  · show (if y < x then y else x) = min x y
    split <;> omega
  · show (if x < y then y else x) = max x y
    split <;> omega
section
variable {K : PySem.W.Frag} {H1 : Hp} {D a : Addr} {g : TG} {tt : TT} {te : TE} {vs : List Nat} {σ : L2.St} {Qd : Hp → Prop}
theorem lc_pairsF (ts : List Addr) (prs : List (Int × Int)) (f : Int × Int → Bool) (hD : H1 D = none) (hl : SqL K H1 a (ts.map V.ref)) (hts : TupsAt H1 ts prs) (few : ts.length ≤ 100000)
    (hs : ∀ (i : Nat) (t : Addr) (p : Int × Int) (H : Hp), ts[i]? = some t → prs[i]? = some p → Ex H1 H → g (.ref t) (wipe σ vs) H fun σ2 H2 => wipe σ2 vs = wipe σ vs ∧ (∀ N : Bool → Hp → Prop, (∀ H', Ex H H' → N (f p) H') → tt σ2 H2 N) ∧ ∀ (H3 : Hp) (N : V → Hp → Prop), N (.ref t) H3 → te σ2 H3 N)
    (mg : ∀ x σ H Q Q', (∀ s h, Q s h → Q' s h) → g x σ H Q → g x σ H Q')
    (hd : ∀ H', Ex H1 H' → LsP H' D (prs.filter f) → Qd H') :
    ∃ W : Nat → Nat → Hp → Prop, (∃ m, W 0 m (upd H1 D (.lst []))) ∧ ∀ i m H, W i m H →
      ((Itl K a).stop i H ∧ Qd H) ∨ ((Itl K a).go i H ∧ ∃ Nx : Hp → Prop, (∀ H', Nx H' → ∃ m', m' < m ∧ W (i + 1) m' H') ∧ ∀ x H', (Itl K a).yld i H x H' → g x (wipe σ vs) H' fun σ2 H2 => wipe σ2 vs = wipe σ vs ∧ tt σ2 H2 fun b H3 =>
        if b = true then te σ2 H3 fun y H4 => ∃ acc, H4 D = some (.lst acc) ∧ acc.length < sizeLine ∧ Nx (upd H4 D (.lst (acc ++ [y]))) else Nx H3) := by
  refine lc_list (xs := ts.map V.ref) (fun i H => Ex H1 H ∧ LsP H D ((prs.take i).filter f)) ⟨Ex.new hD, [], upd_same, TupsAt.nil _⟩ (fun i H _ c => sql_kp hl fun o z => c.1 _ _ z) (fun i x H hx c => ?_) (fun H c => ?_)
  · rw [List.getElem?_map] at hx
    cases hn : ts[i]? with
    | none => rw [hn] at hx; cases hx
    | some t =>
      rw [hn] at hx
      cases hx
      have ip : i < prs.length := by rw [← hts.1]; exact lt_of_get hn
      have hp := List.getElem?_eq_getElem ip
      obtain ⟨e, us, h, hu⟩ := c
      refine mg _ _ _ _ _ (fun s2 h2 q => ?_) (hs i t _ H hn hp e)
      obtain ⟨q1, q2, q3⟩ := q
      refine ⟨q1, q2 _ fun H' e' => ?_⟩
      have e1 := e.trans e'
      have h' := e' _ _ h
      have hu' := hu.up e'
      have st := filter_take (f := f) hp
      by_cases hf : f prs[i] = true
      · rw [if_pos hf]
        rw [hf] at st
        refine q3 _ _ ⟨_, h', lt_line ?_, Ex.mut e1 hD, us ++ [t], by rw [upd_same, List.map_append]; rfl, ?_⟩
        · rw [List.length_map, hu.1]
          have := List.length_filter_le f (prs.take i)
          have : (prs.take i).length ≤ prs.length := by rw [List.length_take]; omega
          have := hts.1
          omega
        · rw [st, if_pos rfl]
          exact tups_upd (tups_snoc hu' (e1 _ _ (hts.2 i t _ hn hp))) h'
      · rw [if_neg hf]
        have hf' : f prs[i] = false := by simpa using hf
        rw [hf'] at st
        exact ⟨e1, us, h', by rw [st]; simpa using hu'⟩
  · obtain ⟨e, h⟩ := c
    rw [List.length_map, hts.1, List.take_length] at h
    exact hd H e h
end
theorem rng_len (n : Nat) : (rngI n).length = n := by simp [rngI]
theorem walk_rng (n : Nat) : Walk (Itr 0 n) (rngI n).length (fun _ => True) (fun i H x H' => H' = H ∧ ∃ m, (rngI n)[i]? = some m ∧ x = .int m) := by
  have ln : (rngI n).length = n := rng_len n
  refine ⟨fun i H hi q => by rw [ln] at hi; exact hi, fun H q => by rw [ln]; exact Nat.le_refl _, fun i H x H' hi q y => ?_⟩
  rw [ln] at hi
  refine ⟨y.1, (i : Int), ?_, by have := y.2; simpa using this⟩
  unfold rngI
  rw [List.getElem?_map, List.getElem?_range hi]
  rfl
theorem dup_none : ∀ {ns : List Int}, ((rngI ns.length).filter fun i => decide (ns.getD i.toNat 0 ∈ ns.take i.toNat)) = [] ↔ ns.Nodup := by
  intro ns
  rw [List.filter_eq_nil_iff]
  constructor
  · intro h
    unfold List.Nodup
    rw [List.pairwise_iff_getElem]
    intro i j hi hj ij e
    have := h (j : Int) (rng_in.mpr (by omega))
    rw [decide_eq_true_iff, Int.toNat_natCast] at this
    apply this
    rw [List.getD_eq_getElem?_getD, List.getElem?_eq_getElem hj]
    show ns[j] ∈ ns.take j
    rw [← e]
    exact List.mem_iff_getElem.mpr ⟨i, by rw [List.length_take]; omega, by rw [List.getElem_take]⟩
  · intro nd x hx
    obtain ⟨j, rfl⟩ : ∃ j : Nat, x = (j : Int) := ⟨x.toNat, by have := rng_in.mp hx; omega⟩
    have lj := rng_in.mp hx
    rw [decide_eq_true_iff, Int.toNat_natCast]
    intro z
    have hj : j < ns.length := by omega
    rw [List.getD_eq_getElem?_getD, List.getElem?_eq_getElem hj] at z
    obtain ⟨i, hi, e⟩ := List.mem_iff_getElem.mp z
    rw [List.length_take] at hi
    rw [List.getElem_take] at e
    exact absurd e (List.pairwise_iff_getElem.mp nd i j (by omega) hj (by omega))
theorem all_in {n : Nat} : ∀ {xs : List V}, (xs.map fun x => inR x 0 ((n : Int) - 1)).all id = true → ∃ ns : List Int, xs = ns.map V.int ∧ ∀ c ∈ ns, 0 ≤ c ∧ c < (n : Int)
  | [], _ => ⟨[], rfl, fun c hc => by cases hc⟩
  | x :: xs, h => by
    rw [List.map_cons, List.all_cons, Bool.and_eq_true] at h
    obtain ⟨ns, rfl, r⟩ := all_in h.2
    cases x with
    | int i =>
      have := of_decide_eq_true (show decide (0 ≤ i ∧ i ≤ (n : Int) - 1) = true from h.1)
      refine ⟨i :: ns, rfl, fun c hc => ?_⟩
      rcases List.mem_cons.mp hc with rfl | hc
      · omega
      · exact r c hc
    | _ => cases h.1
theorem in_all {n : Nat} : ∀ {ns : List Int}, (∀ c ∈ ns, 0 ≤ c ∧ c < (n : Int)) → ((ns.map V.int).map fun x => inR x 0 ((n : Int) - 1)).all id = true
  | [], _ => rfl
  | c :: ns, h => by
    have h1 := in_all fun x hx => h x (List.mem_cons_of_mem _ hx)
    have h2 := h c List.mem_cons_self
    rw [List.map_cons, List.map_cons, List.all_cons, h1, Bool.and_true]
    exact decide_eq_true (by omega)
theorem mm_ifN (x y : Nat) : ((if y < x then (y : Int) else x), (if x < y then (y : Int) else x)) = mmI x y := by
  unfold mmI
  refine Prod.ext ?_ ?_
  · show (if y < x then (y : Int) else x) = min (x : Int) y
    split <;> omega
  · show (if x < y then (y : Int) else x) = max (x : Int) y
    split <;> omega
theorem ifS_str {w1 w2 : Str} {i : Nat} {t u : TS} {D : Ends} {σ : L2.St} {H : Hp} (h : σ[i]? = some (some (.str w1))) (y : w1 = w2 → t D σ H) (n : w1 ≠ w2 → u D σ H) : tIfS (tTest (tOp rEq (tVar i) (tC (.str w2)))) t u D σ H := by
  by_cases c : w1 = w2
  · simp [h, c]
    exact y c
  · simp [h, c]
    exact n c
section
variable {P : Program} {w : World} {K : PySem.W.Frag} {mg : Str → Option Value} {base : Heap} {A : Adr}
theorem ok_l_due (T : Txt K mg A) : FnOk P w K mg base CX0 3 A.a_l_due A.d_l_due ["_law_own", "_law_deed_here"] spDue := by
  refine T.F_l_due.ok sc_l_due (fun vs H Q E h => ?_) (fun cdv C outer s H vs Q E hr h => ?_)
  · obtain ⟨ow, dd, q, n, prs, wd, x, y, rfl, _⟩ := h
    rfl
  · obtain ⟨ow, dd, q, n, prs, wd, x, y, rfl, hw, hq, pl, n1, n30, hd, ok, k⟩ := h
    have hu := hu_of hr
    refine ⟨_, (pss_cons (ps_asg (pv 1) (pg_tupJ (n := 3) rfl (pgs_cons (pg_name (i := 2) sc_l_due.nd rfl (.inl rfl)) (pgs_cons (pg_name (i := 3) sc_l_due.nd rfl (.inr rfl)) (pgs_cons (pg_name (i := 4) sc_l_due.nd rfl (.inl rfl)) pgs_nil)))))
  (pss_cons (ps_if (pt_cmpR op_eq (pv 2) pe_str (nomark _))
    (pss_cons (ps_if (pt_cmpR op_eq (pe_dgetJ (by exact hu) (pv 0) pe_str (fun _ _ => rfl)) pe_int (nomark _))
        (pss_one (ps_ret (pe_tupJ (pa_cons pe_str (pa_cons (pe_lstJ pa_nil) pa_nil)))))
        pss_nil)
      (pss_cons (ps_if (PW.pt (pw_or (pt_not (pt_val (pe_callB call_isJ (by rfl) T.isinstance (by decide +kernel) (pa_cons (pv 3) (pa_cons (pe_bltn (v := .ty "list") (u := .type "list") (by rfl) T.list (by decide +kernel) rfl) pa_nil))))) (pw_or1 (pt_not (pt_val (pe_callB (cr_all rfl) (by rfl) T.all (by decide +kernel) (pa_cons (pe_lc (own := [("_law_point", 8)]) rfl sc_l_due.nd (pi_list (pv 3)) (blkOk_by (own := [("_law_point", 8)]) (N := ["_law_own", "_law_deed_here", "_law_word", "_law_one", "_law_other", "_law_tie", "_law_at", "_law_pair", "_law_point"]) (sc := defScope s_l_due) (by decide +kernel)) (fun _ _ _ _ _ => by exact (pg_name (i := 8) sc_l_due.nd rfl (Or.inl rfl))) (fun _ _ _ _ _ => by exact pts_nil) (fun _ _ _ _ _ => by exact (pe_call (ok_l_is_point T) (hr.mono (by omega)) rfl T.g_l_is_point T.k_l_is_point T.b_l_is_point .nil pass0 (pa_cons (pv 0) (pa_cons (pv 8) pa_nil))))) pa_nil)))))))
        (pss_one (ps_ret (pe_tupJ (pa_cons pe_str (pa_cons (pe_lstJ pa_nil) pa_nil)))))
        pss_nil)
      (pss_cons (ps_if (pt_cmpR (op_neI hr.units) (pe_lc (own := [("_law_at", 6)]) rfl sc_l_due.nd (pi_range1 rfl T.range (pa_cons (pe_callB call_lenJ (by rfl) T.len (by decide +kernel) (pa_cons (pv 3) pa_nil)) pa_nil)) (blkOk_by (own := [("_law_at", 6)]) (N := ["_law_own", "_law_deed_here", "_law_word", "_law_one", "_law_other", "_law_tie", "_law_at", "_law_pair", "_law_point"]) (sc := defScope s_l_due) (by decide +kernel)) (fun _ _ _ _ _ => by exact (pg_name (i := 6) sc_l_due.nd rfl (Or.inl rfl))) (fun _ _ _ _ _ => by exact (pts_one (pt_cmpR op_inI (pe_ix ix_listJ (pv 3) (pv 6) (fun _ _ => rfl)) (pe_slice sl_lstJ (pv 3) po_none (po_some (pv 6))) (by rfl)))) (fun _ _ _ _ _ => by exact (pv 6))) (pe_lstJ pa_nil) (nomark _))
        (pss_one (ps_ret (pe_tupJ (pa_cons pe_str (pa_cons (pe_lstJ pa_nil) pa_nil)))))
        pss_nil)
      (pss_one (ps_ret (pe_tupJ (pa_cons pe_str (pa_cons (pe_op op_catJ (pe_dgetJ (by exact hu) (pv 0) pe_str (fun _ _ => rfl)) (pe_lc (own := [("_law_point", 8)]) rfl sc_l_due.nd (pi_list (pv 3)) (blkOk_by (own := [("_law_point", 8)]) (N := ["_law_own", "_law_deed_here", "_law_word", "_law_one", "_law_other", "_law_tie", "_law_at", "_law_pair", "_law_point"]) (sc := defScope s_l_due) (by decide +kernel)) (fun _ _ _ _ _ => by exact (pg_name (i := 8) sc_l_due.nd rfl (Or.inl rfl))) (fun _ _ _ _ _ => by exact pts_nil) (fun _ _ _ _ _ => by exact (pe_tupJ (pa_cons (pv 8) (pa_cons (pe_dgetJ (by exact hu) (pv 0) pe_str (fun _ _ => rfl)) pa_nil)))))) pa_nil))))))))
    pss_nil)
  (pss_cons (ps_if (PW.pt (pw_or (pt_not (pt_val (pe_call (ok_l_is_point T) (hr.mono (by omega)) rfl T.g_l_is_point T.k_l_is_point T.b_l_is_point .nil pass0 (pa_cons (pv 0) (pa_cons (pv 3) pa_nil))))) (pw_or (pt_not (pt_val (pe_call (ok_l_is_point T) (hr.mono (by omega)) rfl T.g_l_is_point T.k_l_is_point T.b_l_is_point .nil pass0 (pa_cons (pv 0) (pa_cons (pv 4) pa_nil))))) (pw_or1 (pt_cmpR op_eq (pv 3) (pv 4) (nomark _))))))
    (pss_one (ps_ret (pe_tupJ (pa_cons pe_str (pa_cons (pe_lstJ pa_nil) pa_nil)))))
    pss_nil)
  (pss_cons (ps_set (i := 5) sc_l_due.nd rfl (Or.inr rfl) (pe_tupJ (pa_cons (pe_callB (call_min2 rfl) (by rfl) T.min (by decide +kernel) (pa_cons (pv 3) (pa_cons (pv 4) pa_nil))) (pa_cons (pe_callB (call_max2 rfl) (by rfl) T.max (by decide +kernel) (pa_cons (pv 3) (pa_cons (pv 4) pa_nil))) pa_nil))))
  (pss_cons (ps_if (pt_cmpR op_eq (pv 2) pe_str (nomark _))
    (pss_one (ps_ret (pe_ifExp (pt_cmpR (op_inP hr.u65) (pv 5) (pe_dgetJ (by exact hu) (pv 0) pe_str (fun _ _ => rfl)) (by rfl)) (pe_tupJ (pa_cons pe_str (pa_cons (pe_lstJ pa_nil) pa_nil))) (pe_tupJ (pa_cons pe_str (pa_cons (pe_op op_catJ (pe_dgetJ (by exact hu) (pv 0) pe_str (fun _ _ => rfl)) (pe_lstJ (pa_cons (pv 5) pa_nil))) pa_nil))))))
    pss_nil)
  (pss_one (ps_ret (pe_ifExp (pt_cmpR (op_inP hr.u65) (pv 5) (pe_dgetJ (by exact hu) (pv 0) pe_str (fun _ _ => rfl)) (by rfl)) (pe_tupJ (pa_cons pe_str (pa_cons (pe_lc (own := [("_law_pair", 7)]) rfl sc_l_due.nd (pi_list (pe_dgetJ (by exact hu) (pv 0) pe_str (fun _ _ => rfl))) (blkOk_by (own := [("_law_pair", 7)]) (N := ["_law_own", "_law_deed_here", "_law_word", "_law_one", "_law_other", "_law_tie", "_law_at", "_law_pair", "_law_point"]) (sc := defScope s_l_due) (by decide +kernel)) (fun _ _ _ _ _ => by exact (pg_name (i := 7) sc_l_due.nd rfl (Or.inl rfl))) (fun _ _ _ _ _ => by exact (pts_one (pt_cmpR (op_nePr hr.units) (pv 7) (pv 5) (nomark _)))) (fun _ _ _ _ _ => by exact (pv 7))) pa_nil))) (pe_tupJ (pa_cons pe_str (pa_cons (pe_lstJ pa_nil) pa_nil))))))))))), ?_⟩
    refine seq_by (fun σ1 H1 => σ1 = [some (.ref ow), some (.ref dd), some (.str wd), some x, some y, none, none, none, none] ∧ H = H1) (fun N hN => ?_) (fun s1 H1 m => ?_)
    · simp [L2.start, hd]
      exact hN _ _ ⟨rfl, rfl⟩
    obtain ⟨rfl, rfl⟩ := m
    rcases ok with ⟨rfl, L⟩ | ⟨wo, tx, ty⟩
    · refine seq_by (fun _ _ => False) (fun N hN => ?_) (fun s1 H1 m => False.elim m)
      refine ifS_str (w1 := "grow") rfl (fun _ => ?_) (fun z => absurd rfl z)
      refine seq_by (fun σ1 H1 => σ1 = [some (.ref ow), some (.ref dd), some (.str "grow"), some x, some y, none, none, none, none] ∧ H = H1 ∧ n < 30) (fun N hN => ?_) (fun s1 H1 m => ?_)
      · simp [and_assoc, hw, own_many]
        by_cases c : n = 30
        · exact .inr ⟨by omega, fun p H2 np e2 h2 r H3 nr e3 h3 => k "many" [] r p H3 (.many c) (fresh_back e2 nr) np (e2.trans e3) h3 ⟨[], e3 _ _ h2, TupsAt.nil _⟩⟩
        · exact .inl ⟨by omega, hN _ _ ⟨rfl, rfl, by omega⟩⟩
      obtain ⟨rfl, rfl, nlt⟩ := m
      have pt : ¬ Unl H x n → ∀ p H2, H p = none → Ex H H2 → H2 p = some (.lst []) → ∀ r H3, H2 r = none → Ex H2 H3 → H3 r = some (.tup [.str "point", .ref p]) → Q (.ref r) H3 := fun nu p H2 np e2 h2 r H3 nr e3 h3 => k "point" [] r p H3 (.gpoint nlt nu) (fresh_back e2 nr) np (e2.trans e3) h3 ⟨[], e3 _ _ h2, TupsAt.nil _⟩
      refine seq_by (fun σ1 H1 => ∃ a ns, x = .ref a ∧ LsI H a ns ∧ (∀ c ∈ ns, 0 ≤ c ∧ c < (n : Int)) ∧ σ1 = [some (.ref ow), some (.ref dd), some (.str "grow"), some (.ref a), some y, none, none, none, none] ∧ Ex H H1) (fun N hN => ?_) (fun s1 H1 m => ?_)
      · obtain ⟨a, xs, rfl, hx⟩ | ⟨t, t1, t2, nu⟩ : (∃ a xs, x = .ref a ∧ H a = some (.lst xs)) ∨ (∃ t, tyN H x = some t ∧ kitB t "list" = some false ∧ ¬ Unl H x n) := by
          cases L.th with
          | lst h => exact .inl ⟨_, _, rfl, h⟩
          | non => exact .inr ⟨_, rfl, rfl, fun ⟨a, ns, hx, _⟩ => by cases hx⟩
          | bl b => exact .inr ⟨_, rfl, rfl, fun ⟨a, ns, hx, _⟩ => by cases hx⟩
          | int i => exact .inr ⟨_, rfl, rfl, fun ⟨a, ns, hx, _⟩ => by cases hx⟩
          | str t => exact .inr ⟨_, rfl, rfl, fun ⟨a, ns, hx, _⟩ => by cases hx⟩
          | tup h => exact .inr ⟨_, tyN_tup h, rfl, fun ⟨a, ns, hx, hl, _⟩ => by cases hx; unfold LsI at hl; rw [h] at hl; cases hl⟩
          | dK h => exact .inr ⟨_, tyN_dK h, rfl, fun ⟨a, ns, hx, hl, _⟩ => by cases hx; unfold LsI at hl; rw [h] at hl; cases hl⟩
        rotate_left
        · refine ⟨_, rfl, x, "list", t, false, rfl, t1, t2, false, rfl, ?_⟩
          change (if (!false) = true then _ else _)
          rw [if_pos (by simp)]
          change (if true = true then _ else _)
          rw [if_pos rfl]
          simp
          exact pt nu
        · have it := L.it a xs rfl hx
          refine ⟨_, rfl, .ref a, "list", "list", true, rfl, tyN_lst hx, rfl, true, rfl, ?_⟩
          change (if (!true) = true then _ else _)
          rw [if_neg (by simp)]
          refine ⟨_, rfl, a, rfl, ⟨_, .inl (.inl hx)⟩, fun D hD => lc_listS (xs := xs) (fun i y _ => y = (fun i => V.bl (inR (xs.getD i .non) 0 ((n : Int) - 1))) i) stay_val hD (.inl (.inl hx)) (by omega) (fun i z H4 N' hz e hH hN' => ?_) (fun acc H4 e4 h4 hlen hall => ?_)⟩
          · rw [j_gname]
            refine ⟨by simp [wipe], ?_⟩
            simp [wipe]
            refine ⟨ow, q, n, z, rfl, e _ _ hw, (it.2 z (List.mem_of_getElem? hz)).up e, hN' _ _ (Ex.refl _) ?_⟩
            show _ = V.bl (inR (xs.getD i .non) 0 ((n : Int) - 1))
            rw [List.getD_eq_getElem?_getD, hz]
            rfl
          · have ea : acc = (xs.map fun x => inR x 0 ((n : Int) - 1)).map V.bl := by
              apply List.ext_getElem?
              intro i
              rcases Nat.lt_or_ge i acc.length with z | z
              · have g := List.getElem?_eq_getElem z
                have g2 := List.getElem?_eq_getElem (l := xs) (i := i) (by omega)
                have y : acc[i] = V.bl (inR (xs.getD i .non) 0 ((n : Int) - 1)) := hall i _ g
                rw [g, y, List.getElem?_map, List.getElem?_map, g2, List.getD_eq_getElem?_getD, g2]
                rfl
              · rw [List.getElem?_eq_none z, List.getElem?_eq_none (by rw [List.length_map, List.length_map]; omega)]
            refine ⟨D, xs.map fun x => inR x 0 ((n : Int) - 1), rfl, .inl (.inl (by rw [← ea]; exact h4)), _, rfl, ?_⟩
            change (if (!(xs.map fun x => inR x 0 ((n : Int) - 1)).all id) = true then _ else _)
            by_cases c : (xs.map fun x => inR x 0 ((n : Int) - 1)).all id = true
            · rw [if_neg (by simp only [c]; simp)]
              obtain ⟨ns, rfl, r⟩ := all_in c
              exact hN _ _ ⟨a, ns, rfl, hx, r, rfl, e4⟩
            · rw [if_pos (by simp only [Bool.not_eq_true'] ; exact Bool.eq_false_iff.mpr c)]
              simp
              exact fun p H5 np e5 h5 r H6 nr e6 h6 => pt (fun ⟨a', ns, hx', hl, nd, r⟩ => c (by
                cases hx'
                unfold LsI at hl
                rw [hx] at hl
                cases hl
                exact in_all r)) p H5 (fresh_back e4 np) (e4.trans e5) h5 r H6 nr e6 h6
      obtain ⟨a, ns, rfl, ha, inr, rfl, e1⟩ := m
      have ha1 : LsI H1 a ns := e1 _ _ ha
      have l100 : ns.length ≤ 100 := by have := (L.it a _ rfl ha).1; rw [List.length_map] at this; exact this
      refine seq_by (fun σ1 H2 => σ1 = [some (.ref ow), some (.ref dd), some (.str "grow"), some (.ref a), some y, none, none, none, none] ∧ Ex H1 H2 ∧ ns.Nodup) (fun N hN => ?_) (fun s1 H2 m => ?_)
      · refine ⟨_, rfl, a, _, rfl, ha1, (ns.length : Int), by rw [List.length_map], by omega, by omega, fun D hD => ?_⟩
        refine lc_walkF (g := gName 6) (tt := tTest (tOp jInI (tOp jIxL (tVar 3) (tVar 6)) (tSl jSlL (tVar 3) tNoPart (tPart (tVar 6))))) (te := tVar 6) (walk_rng ns.length) (fun i => decide (ns.getD i.toNat 0 ∈ ns.take i.toNat)) hD (fun _ _ => trivial) (by rw [rng_len]; omega) (fun i m H4 hm e => ?_) (fun x σ H Q Q' m q => m _ _ q) (fun H4 e4 h4 => ?_)
        · obtain ⟨hi, rfl⟩ : i < ns.length ∧ m = (i : Int) := by
            have lt := lt_of_get hm
            rw [rng_len] at lt
            unfold rngI at hm
            rw [List.getElem?_map, List.getElem?_range lt] at hm
            cases hm
            exact ⟨lt, rfl⟩
          have ha4 : LsI H4 a ns := e _ _ ha1
          have ha4' : H4 a = some (.lst (ns.map V.int)) := ha4
          have gi := List.getElem?_eq_getElem hi
          rw [j_gname]
          refine ⟨by simp [wipe], fun N' hN' => ?_, fun H3 N' q => (by simp [wipe]; exact q)⟩
          simp [wipe, ha4', gi]
          intro p H5 np e5 h5
          refine ⟨ns.take i, by unfold LsI; rw [h5, List.map_take], ?_⟩
          have f := hN' H5 e5
          rw [Int.toNat_natCast, List.getD_eq_getElem?_getD, gi] at f
          change N' (decide (ns[i] ∈ ns.take i)) H5 at f
          by_cases c : ns[i] ∈ ns.take i
          · rw [decide_eq_true c] at f
            exact .inr ⟨c, f⟩
          · rw [decide_eq_false c] at f
            exact .inl ⟨c, f⟩
        · refine ⟨by simp, fun p5 H5 n5 e5 h5 => ⟨_, _, rfl, rfl, _, e5 _ _ h4, [], h5, _, rfl, ?_⟩⟩
          change (if (!decide (_ = [])) = true then _ else _)
          by_cases nd : ns.Nodup
          · rw [if_neg (by rw [decide_eq_true (dup_none.mpr nd)]; simp)]
            exact hN _ _ ⟨rfl, e4.trans e5, nd⟩
          · rw [if_pos (by rw [decide_eq_false (fun z => nd (dup_none.mp z))]; rfl)]
            simp
            have e0 := e1.trans (e4.trans e5)
            exact fun p H6 np e6 h6 r H7 nr e7 h7 => pt (fun ⟨a', ns', hx', hl, nd', _⟩ => nd (by
              cases hx'
              rw [hl.uniq ha]
              exact nd')) p H6 (fresh_back e0 np) (e0.trans e6) h6 r H7 nr e7 h7
      obtain ⟨rfl, e2, nd⟩ := m
      have e02 := e1.trans e2
      refine ⟨_, rfl, ow, _, Sum.inr "ties", .ref q, rfl, e02 _ _ hw, rfl, own_ties n q, _, rfl, a, rfl, ⟨_, .inl (.inl (e02 _ _ ha))⟩, fun D hD => lc_listS (xs := ns.map V.int) (g := gName 8) (te := jTup (tCons (tVar 8) (tCons (jDGet (tVar 0) (tC (.str "many"))) tNil))) (fun i y H => ∃ t', y = .ref t' ∧ H t' = some (.tup [.int ((fun i => (ns.getD i 0, (n : Int))) i).1, .int ((fun i => (ns.getD i 0, (n : Int))) i).2])) (stay_pair (f := fun i => (ns.getD i 0, (n : Int)))) hD (.inl (.inl (e02 _ _ ha))) (by rw [List.length_map]; omega) (fun i z H4 N' hz e hH hN' => ?_) (fun acc H4 e4 h4 hlen hall => ?_)⟩
      · rw [List.getElem?_map] at hz
        cases hc : ns[i]? with
        | none => rw [hc] at hz; cases hz
        | some c =>
          rw [hc] at hz
          cases hz
          have hw4 := (e02.trans e) _ _ hw
          simp [wipe, hw4, own_many]
          exact fun p5 H5 n5 e5 h5 => hN' _ _ e5 ⟨p5, rfl, by rw [h5]; simp [List.getD_eq_getElem?_getD, hc]⟩
      · rw [List.length_map] at hlen
        have hl4 : LsP H4 D (ns.map fun c => (c, (n : Int))) := lsP_of h4 (by rw [hlen, List.length_map]) fun i y hy => by
          obtain ⟨t', e', h'⟩ := hall i y hy
          have lt : i < ns.length := by rw [← hlen]; exact lt_of_get hy
          refine ⟨t', e', (ns[i], (n : Int)), by rw [List.getElem?_map, List.getElem?_eq_getElem lt]; rfl, ?_⟩
          have h'' : H4 t' = some (.tup [.int (ns.getD i 0), .int (n : Int)]) := h'
          rw [List.getD_eq_getElem?_getD, List.getElem?_eq_getElem lt] at h''
          exact h''
        refine LsP.cat ((hq.up e02).up e4) hl4 (by rw [List.length_map]; omega) fun p H5 np e5 hp => ⟨by simp, fun r H6 nr e6 h6 => k "" _ r p H6 (.grow nlt ha nd inr) (fresh_back (e02.trans (e4.trans e5)) nr) (fresh_back (e02.trans e4) np) (e02.trans (e4.trans (e5.trans e6))) h6 (hp.up e6)⟩
    · have nw : ¬ wd = ("grow" : Str) := by rcases wo with rfl | rfl <;> decide +kernel
      refine seq_by (fun σ1 H1 => σ1 = [some (.ref ow), some (.ref dd), some (.str wd), some x, some y, none, none, none, none] ∧ H = H1) (fun N hN => ?_) (fun s1 H1 m => ?_)
      · refine ifS_str (w1 := wd) rfl (fun z => absurd z nw) (fun _ => ?_)
        exact hN _ _ ⟨rfl, rfl⟩
      obtain ⟨rfl, rfl⟩ := m
      refine seq_by (fun σ1 H1 => σ1 = [some (.ref ow), some (.ref dd), some (.str wd), some x, some y, none, none, none, none] ∧ H = H1 ∧ twoOk n x y = true) (fun N hN => ?_) (fun s1 H1 m => ?_)
      · simp [and_assoc]
        have pt : twoOk n x y = false → ∀ p H2, H p = none → Ex H H2 → H2 p = some (.lst []) → ∀ r H3, H2 r = none → Ex H2 H3 → H3 r = some (.tup [.str "point", .ref p]) → Q (.ref r) H3 := fun nu p H2 np e2 h2 r H3 nr e3 h3 => k "point" [] r p H3 (.point wo nu) (fresh_back e2 nr) np (e2.trans e3) h3 ⟨[], e3 _ _ h2, TupsAt.nil _⟩
        refine ⟨ow, q, n, x, rfl, hw, tx, ?_⟩
        cases c1 : inR x 0 ((n : Int) - 1) with
        | false => exact .inl ⟨rfl, pt (by unfold twoOk; rw [c1]; rfl)⟩
        | true =>
          refine .inr ⟨rfl, ow, q, n, y, rfl, hw, ty, ?_⟩
          cases c2 : inR y 0 ((n : Int) - 1) with
          | false => exact .inl ⟨rfl, pt (by unfold twoOk; rw [c1, c2]; rfl)⟩
          | true =>
            refine .inr ⟨rfl, ?_⟩
            obtain ⟨i, rfl⟩ : ∃ i, x = .int i := by cases x with
              | int i => exact ⟨i, rfl⟩
              | _ => cases c1
            obtain ⟨j, rfl⟩ : ∃ j, y = .int j := by cases y with
              | int j => exact ⟨j, rfl⟩
              | _ => cases c2
            rw [j_eq_ii]
            by_cases c3 : i = j
            · exact .inr ⟨by simp [c3], pt (by unfold twoOk; rw [c1, c2, c3]; simp)⟩
            · exact .inl ⟨by simp [c3], hN _ _ ⟨rfl, rfl, by unfold twoOk; rw [c1, c2]; simp [c3]⟩⟩
      obtain ⟨rfl, rfl, two⟩ := m
      obtain ⟨i, j, rfl, rfl, hi, hj, ij⟩ := two_ints two
      refine seq_by (fun σ1 H1 => ∃ tt, σ1 = [some (.ref ow), some (.ref dd), some (.str wd), some (.int i), some (.int j), some (.ref tt), none, none, none] ∧ Ex H H1 ∧ H1 tt = some (.tup [.int (mmI i j).1, .int (mmI i j).2])) (fun N hN => ?_) (fun s1 H1 m => ?_)
      · simp [and_assoc]
        exact fun p H2 np e2 h2 => hN _ _ ⟨p, rfl, e2, by rw [← mm_ifN]; exact h2⟩
      obtain ⟨tt, rfl, e1, ht⟩ := m
      have hw1 := e1 _ _ hw
      have hq1 := hq.up e1
      rcases wo with rfl | rfl
      · refine seq_by (fun _ _ => False) (fun N hN => ?_) (fun s1 H1 m => False.elim m)
        simp [and_assoc, hw1, own_ties]
        refine ⟨_, _, ht, prs, hq1, ?_⟩
        by_cases c : mmI i j ∈ prs
        · exact .inr ⟨c, fun p H2 np e2 h2 r H3 nr e3 h3 => k "twice" [] r p H3 (.twice hi hj ij c) (fresh_back (e1.trans e2) nr) (fresh_back e1 np) (e1.trans (e2.trans e3)) h3 ⟨[], e3 _ _ h2, TupsAt.nil _⟩⟩
        · refine .inl ⟨c, fun p H2 np e2 h2 => ?_⟩
          obtain ⟨us, g1, g2⟩ := hq1
          exact ⟨_, e2 _ _ g1, _, h2, by rw [List.length_map, g2.1]; simp; omega, fun p3 H3 n3 e3 h3 r H4 nr e4 h4 => k "" (prs ++ [mmI i j]) r p3 H4 (.put hi hj ij c) (fresh_back (e1.trans (e2.trans e3)) nr) (fresh_back (e1.trans e2) n3) (e1.trans (e2.trans (e3.trans e4))) h4 ⟨us ++ [tt], by rw [e4 _ _ h3, List.map_append]; rfl, tups_snoc (g2.up (e2.trans (e3.trans e4))) ((e2.trans (e3.trans e4)) _ _ ht)⟩⟩
      · refine seq_by (fun σ1 H2 => σ1 = [some (.ref ow), some (.ref dd), some (.str "take"), some (.int i), some (.int j), some (.ref tt), none, none, none] ∧ H1 = H2) (fun N hN => ?_) (fun s1 H2 m => ?_)
        · refine ifS_str (w1 := "take") rfl (fun z => absurd z (by decide +kernel)) (fun _ => ?_)
          exact hN _ _ ⟨rfl, rfl⟩
        obtain ⟨rfl, rfl⟩ := m
        refine ⟨_, rfl, _, rfl, ow, _, Sum.inr "ties", .ref q, rfl, hw1, rfl, own_ties n q, tt, q, rfl, rfl, mmI i j, ht, prs, hq1, _, rfl, ?_⟩
        change (if decide (mmI i j ∈ prs) = true then _ else _)
        by_cases c : mmI i j ∈ prs
        · rw [if_pos (decide_eq_true c)]
          obtain ⟨us, g1, g2⟩ := hq1
          refine ⟨_, rfl, ow, _, Sum.inr "ties", .ref q, rfl, hw1, rfl, own_ties n q, q, rfl, ⟨_, .inl (.inl g1)⟩, fun D hD => lc_pairsF (g := gName 7) (tt := tTest (tOp jNePr (tVar 7) (tVar 5))) (te := tVar 7) us prs (fun p => !decide (p = mmI i j)) hD (.inl (.inl g1)) g2 (by have := g2.1; omega) (fun i' t p H4 ht' hp e => ?_) (fun x σ H Q Q' m q => m _ _ q) (fun H9 e9 h9 => ⟨by simp, fun r H6 nr e6 h6 => k "" _ r D H6 (.take hi hj ij c) (fresh_back (e1.trans e9) nr) (fresh_back e1 hD) (e1.trans (e9.trans e6)) h6 (h9.up e6)⟩)⟩
          rw [j_gname]
          refine ⟨by simp [wipe], fun N' hN' => ?_, fun H3 N' q => (by simp [wipe]; exact q)⟩
          exact ⟨_, rfl, _, rfl, t, tt, rfl, rfl, p, e _ _ (g2.2 i' t p ht' hp), mmI i j, e _ _ ht, _, rfl, hN' H4 (Ex.refl _)⟩
        · rw [if_neg (by simp [c])]
          simp
          exact fun p H2 np e2 h2 r H3 nr e3 h3 => k "no tie" [] r p H3 (.notie hi hj ij c) (fresh_back (e1.trans e2) nr) (fresh_back e1 np) (e1.trans (e2.trans e3)) h3 ⟨[], e3 _ _ h2, TupsAt.nil _⟩
end
end Jk

namespace Jk
open PySem L2 Evl

/-! ## ties of what would be -/
theorem mm_nat {i j : Nat} (h : i ≠ j) : ∃ a b : Nat, mmI i j = ((a : Int), (b : Int)) ∧ a < b ∧ ((a = i ∧ b = j) ∨ (a = j ∧ b = i)) := by
  rcases Nat.lt_or_gt_of_ne h with z | z
  · exact ⟨i, j, by unfold mmI; rw [Int.min_eq_left (by omega), Int.max_eq_right (by omega)], z, .inl ⟨rfl, rfl⟩⟩
  · exact ⟨j, i, by unfold mmI; rw [Int.min_eq_right (by omega), Int.max_eq_left (by omega)], z, .inr ⟨rfl, rfl⟩⟩
theorem rel_mm {rows : List (List Int)} {n : Int} {prs : List (Int × Int)} (G : Good rows) (R : Rel rows n prs) {i j : Nat} (h : i ≠ j) : mmI i j ∈ prs ↔ tN rows i j := by
  obtain ⟨a, b, e, ab, c⟩ := mm_nat h
  rw [e, R.ti]
  constructor
  · rintro ⟨a', b', e', _, t⟩
    cases e'
    rcases c with ⟨rfl, rfl⟩ | ⟨rfl, rfl⟩
    · exact t
    · exact G.symm t
  · intro t
    rcases c with ⟨rfl, rfl⟩ | ⟨rfl, rfl⟩
    · exact ⟨_, _, rfl, ab, t⟩
    · exact ⟨_, _, rfl, ab, G.symm t⟩
theorem rel_put2 {rows rows' : List (List Int)} {n : Int} {prs : List (Int × Int)} (R : Rel rows n prs) (ln : rows'.length = rows.length) {i j : Nat} (ij : i ≠ j) (np : mmI i j ∉ prs) (h : ∀ a b, tN rows' a b ↔ tN rows a b ∨ (a = i ∧ b = j) ∨ (a = j ∧ b = i)) : Rel rows' n (prs ++ [mmI i j]) := by
  obtain ⟨x, y, e, xy, c⟩ := mm_nat ij
  refine ⟨by rw [ln]; exact R.n, List.nodup_append.mpr ⟨R.nd, by simp, fun a ha b hb z => np (by simp at hb; rw [← hb, ← z]; exact ha)⟩, fun p => ?_⟩
  rw [List.mem_append, List.mem_singleton, R.ti]
  constructor
  · rintro (⟨a, b, rfl, l, t⟩ | rfl)
    · exact ⟨a, b, rfl, l, (h a b).mpr (.inl t)⟩
    · exact ⟨x, y, e, xy, (h x y).mpr (.inr (by omega))⟩
  · rintro ⟨a, b, rfl, l, t⟩
    rcases (h a b).mp t with t | t
    · exact .inl ⟨a, b, rfl, l, t⟩
    · refine .inr ?_
      rw [e]
      exact Prod.ext (by show (a : Int) = x; omega) (by show (b : Int) = y; omega)
theorem rel_take2 {rows rows' : List (List Int)} {n : Int} {prs : List (Int × Int)} (R : Rel rows n prs) (ln : rows'.length = rows.length) {i j : Nat} (ij : i ≠ j) (h : ∀ a b, tN rows' a b ↔ tN rows a b ∧ ¬ (a = i ∧ b = j) ∧ ¬ (a = j ∧ b = i)) : Rel rows' n (prs.filter fun p => !decide (p = mmI i j)) := by
  obtain ⟨x, y, e, xy, c⟩ := mm_nat ij
  refine ⟨by rw [ln]; exact R.n, R.nd.sublist List.filter_sublist, fun p => ?_⟩
  rw [List.mem_filter, R.ti, Bool.not_eq_true', decide_eq_false_iff_not, e]
  constructor
  · rintro ⟨⟨a, b, rfl, l, t⟩, ne⟩
    refine ⟨a, b, rfl, l, (h a b).mpr ⟨t, fun z => ne ?_, fun z => ne ?_⟩⟩ <;> exact Prod.ext (by show (a : Int) = x; omega) (by show (b : Int) = y; omega)
  · rintro ⟨a, b, rfl, l, t⟩
    have z := (h a b).mp t
    exact ⟨⟨a, b, rfl, l, z.1⟩, fun w => by
      have w1 : (a : Int) = x := (Prod.mk.inj w).1
      have w2 : (b : Int) = y := (Prod.mk.inj w).2
      omega⟩
theorem rel_grow2 {rows rows' : List (List Int)} {prs : List (Int × Int)} (G : Good rows) (R : Rel rows (rows.length : Int) prs) (ln : rows'.length = rows.length + 1) {ns : List Int} (nd : ns.Nodup) (inr : ∀ c ∈ ns, 0 ≤ c ∧ c < (rows.length : Int)) (h : ∀ a b, tN rows' a b ↔ grownTN rows ns a b) : Rel rows' ((rows.length : Int) + 1) (prs ++ ns.map fun c => (c, (rows.length : Int))) := by
  refine ⟨by rw [ln]; simp, List.nodup_append.mpr ⟨R.nd, ?_, fun a ha b hb z => ?_⟩, fun p => ?_⟩
  · unfold List.Nodup
    rw [List.pairwise_map]
    exact nd.imp fun z e => z (Prod.mk.inj e).1
  · obtain ⟨c, hc, rfl⟩ := List.mem_map.mp hb
    subst z
    obtain ⟨i, j, e, _, t⟩ := (R.ti _).mp ha
    have := G.lt t
    have e2 : (rows.length : Int) = j := (Prod.mk.inj e).2
    omega
  · rw [List.mem_append, List.mem_map, R.ti]
    constructor
    · rintro (⟨a, b, rfl, l, t⟩ | ⟨c, hc, rfl⟩)
      · exact ⟨a, b, rfl, l, (h a b).mpr (.inl t)⟩
      · have := inr c hc
        exact ⟨c.toNat, rows.length, Prod.ext (by show c = _; omega) rfl, by omega, (h _ _).mpr (.inr (.inl ⟨rfl, by rw [Int.toNat_of_nonneg this.1]; exact hc⟩))⟩
    · rintro ⟨a, b, rfl, l, t⟩
      rcases (h a b).mp t with t2 | ⟨rfl, t2⟩ | ⟨rfl, t2⟩
      · exact .inl ⟨a, b, rfl, l, t2⟩
      · exact .inr ⟨_, t2, rfl⟩
      · have := inr _ t2
        omega
def grN (wd : Str) (n : Nat) : Int := if wd = "grow" then (n : Int) + 1 else n
def grV (wd : Str) (n : Nat) : V := if wd = "grow" then .int (n : Int) else .non
def spLSaid (A : Adr) : Sp := fun vs H Q _ => ∃ (k dd wp l : Addr) (ds : List Addr) (rows : List (List Int)) (n : Nat) (prs qrs : List (Int × Int)) (wd due : Str) (x y : V), vs = [.ref k, .ref dd] ∧ KeptAt A H k wp l ds rows ∧ Rel rows (n : Int) prs ∧ H dd = some (.tup [.str wd, x, y]) ∧ DeedOk H wd x y ∧ DueR H n prs wd x y due qrs ∧
  (due ≠ "" → ∀ D a r H', (D, due) ∈ kinds A → Ex H H' → H r = none → H' a = some (ExK (.ref D) none a) → H' r = some (.tup [.ref a, .non]) → Q (.ref r) H') ∧
  (due = "" → ∀ rows', Good rows' → Rel rows' (grN wd n) qrs →
    (∀ a b c d, rowF (nearF rows') (tiesL rows') = some (a, b, c, d) → ∀ x dx rr r H', Ex H H' → KeptX H' x A.c_NoTree dx (rowX (.ref rr)) → H' rr = some (.tup [.int a, .int b, .int c, .int d]) → H r = none → H' r = some (.tup [.ref x, .non]) → Q (.ref r) H') ∧
    (rowF (nearF rows') (tiesL rows') = none → ∀ wp' l' ds' r H', H l' = none → But [k] H H' → KeptAt A H' k wp' l' ds' rows' → H r = none → H' r = some (.tup [.non, grV wd n]) → Q (.ref r) H'))
section
variable {P : Program} {w : World} {K : PySem.W.Frag} {mg : Str → Option Value} {base : Heap} {A : Adr}
theorem in_nt : (A.c_NoTree, ("row" : Str)) ∈ kinds A := by simp [kinds]
theorem ok_l_said (T : Txt K mg A) : FnOk P w K mg base CX0 8 A.a_l_said A.d_l_said ["_law_kept", "_law_deed_here"] (spLSaid A) := by
  refine T.F_l_said.ok sc_l_said (fun vs H Q E h => ?_) (fun cdv C outer s H vs Q E hr h => ?_)
  · obtain ⟨k, dd, wp, l, ds, rows, n, prs, qrs, wd, due, x, y, rfl, _⟩ := h
    rfl
  · obtain ⟨k, dd, wp, l, ds, rows, n, prs, qrs, wd, due, x, y, rfl, KA, R, hd, ok, du, q1, q2⟩ := h
    obtain ⟨dx, hk⟩ := KA.ob
    have rn : rows.length = n := by have := R.n; omega
    subst rn
    refine ⟨_, (pss_cons (ps_set (i := 2) sc_l_said.nd rfl (Or.inl rfl) pe_non)
  (pss_cons (ps_set (i := 3) sc_l_said.nd rfl (Or.inl rfl) pe_non)
  (pss_cons (ps_try_keep (i := 4) rfl rfl rfl rfl sc_l_said.nd rfl rfl ⟨rfl, by decide, .inl T.gJoinError⟩ takes0 (fun W pn xe tk _ => by exact (pss_one (ps_if (pt_cmpR op_eq (pe_ix ix_tupJ (pv 1) pe_int (fun _ _ => rfl)) pe_str (nomark _))
        (pss_one (ps_set (i := 3) sc_l_said.nd rfl (Or.inl rfl) (pe_methJ (pv 0) T.cl_Kept T.m_Kept_grow (ok_Kept_grow T) (hr.mono (by omega)) T.b_Kept_grow (fun σ => passAt tk σ) (pa_cons (pe_ix ix_tupJ (pv 1) pe_int (fun _ _ => rfl)) pa_nil))))
        (pss_one (ps_if (pt_cmpR op_eq (pe_ix ix_tupJ (pv 1) pe_int (fun _ _ => rfl)) pe_str (nomark _))
            (pss_one (ps_set (i := 3) sc_l_said.nd rfl (Or.inl rfl) (pe_methJ (pv 0) T.cl_Kept T.m_Kept_put (ok_Kept_put T) (hr.mono (by omega)) T.b_Kept_put (fun σ => passAt tk σ) (pa_cons (pe_ix ix_tupJ (pv 1) pe_int (fun _ _ => rfl)) (pa_cons (pe_ix ix_tupJ (pv 1) pe_int (fun _ _ => rfl)) pa_nil)))))
            (pss_one (ps_set (i := 3) sc_l_said.nd rfl (Or.inl rfl) (pe_methJ (pv 0) T.cl_Kept T.m_Kept_take (ok_Kept_take T) (hr.mono (by omega)) T.b_Kept_take (fun σ => passAt tk σ) (pa_cons (pe_ix ix_tupJ (pv 1) pe_int (fun _ _ => rfl)) (pa_cons (pe_ix ix_tupJ (pv 1) pe_int (fun _ _ => rfl)) pa_nil)))))))))) (fun a oe cls d pn hz hf => by exact (pss_one (ps_set (i := 2) sc_l_said.nd rfl (Or.inl rfl) (pv 4)))))
  (pss_one (ps_ret (pe_tupJ (pa_cons (pv 2) (pa_cons (pv 3) pa_nil)))))))), ?_⟩
    refine seq_by (fun σ1 H1 => σ1 = [some (.ref k), some (.ref dd), some .non, none, none] ∧ H = H1) (fun N hN => ?_) (fun s1 H1 m => ?_)
    · simp [L2.start]
      exact hN _ _ ⟨rfl, rfl⟩
    obtain ⟨rfl, rfl⟩ := m
    refine seq_by (fun σ1 H1 => σ1 = [some (.ref k), some (.ref dd), some .non, some .non, none] ∧ H = H1) (fun N hN => ?_) (fun s1 H1 m => ?_)
    · simp
      exact hN _ _ ⟨rfl, rfl⟩
    obtain ⟨rfl, rfl⟩ := m
    refine seq_by (fun σ1 H1 =>
      (due ≠ "" ∧ ∃ D a, (D, due) ∈ kinds A ∧ σ1 = [some (.ref k), some (.ref dd), some (.ref a), some .non, none] ∧ Ex H H1 ∧ H1 a = some (ExK (.ref D) none a)) ∨
      (due = "" ∧ ∃ rows' a b c d x dx rr, Good rows' ∧ Rel rows' (grN wd rows.length) qrs ∧ rowF (nearF rows') (tiesL rows') = some (a, b, c, d) ∧ σ1 = [some (.ref k), some (.ref dd), some (.ref x), some .non, none] ∧ Ex H H1 ∧ KeptX H1 x A.c_NoTree dx (rowX (.ref rr)) ∧ H1 rr = some (.tup [.int a, .int b, .int c, .int d])) ∨
      (due = "" ∧ ∃ rows' wp' l' ds', Good rows' ∧ Rel rows' (grN wd rows.length) qrs ∧ rowF (nearF rows') (tiesL rows') = none ∧ σ1 = [some (.ref k), some (.ref dd), some .non, some (grV wd rows.length), none] ∧ H l' = none ∧ But [k] H H1 ∧ KeptAt A H1 k wp' l' ds' rows')) (fun N hN => ?_) (fun s1 H1 m => ?_)
    rotate_left
    · rcases m with ⟨ne, D, a, hD, rfl, e1, h1⟩ | ⟨de, rows', a, b, c, d, x, dx, rr, G', R', rf, rfl, e1, kx, h1⟩ | ⟨de, rows', wp', l', ds', G', R', rf, rfl, nl', b1, K1⟩
      · simp
        exact fun r H2 nr e2 h2 => q1 ne D a r H2 hD (e1.trans e2) (fresh_back e1 nr) (e2 _ _ h1) h2
      · simp
        exact fun r H2 nr e2 h2 => (q2 de rows' G' R').1 a b c d rf x dx rr r H2 (e1.trans e2) (kx.up e2) (e2 _ _ h1) (fresh_back e1 nr) h2
      · simp
        exact fun r H2 nr e2 h2 => (q2 de rows' G' R').2 rf wp' l' ds' r H2 nl' (b1.trans (But.of_ex e2)) (K1.up e2) (b1.dm _ nr) h2
    have s1 : ¬ (("put" : Str) = "grow") := by decide +kernel
    have s2 : ¬ (("take" : Str) = "grow") := by decide +kernel
    have s3 : ¬ (("take" : Str) = "put") := by decide +kernel
    have s4 : ¬ (("grow" : Str) = "put") := by decide +kernel
    have s5 : ¬ (("grow" : Str) = "take") := by decide +kernel
    have err : ∀ D H1, (D, due) ∈ kinds A → due ≠ "" → Ex H H1 → WE (wKeep K (Value.ref A.c_JoinError) 4 (fun a cls d => tAsg (tVar 4) (gName 2)) (fun _ _ _ _ => False) { nx := N, rt := Q }) [some (.ref k), some (.ref dd), some .non, some .non, none] (.ref D) none H1 := fun D H1 hD ne e1 => by
      refine ⟨true, exmJ T hD, fun _ a ha => ?_, fun z => nomatch z⟩
      simp
      intro na
      exact hN _ _ (.inl ⟨ne, D, a, hD, rfl, e1.trans (Ex.new na), upd_same⟩)
    have out : ∀ (v : V) (tn : Nat → Nat → Prop) (m : Nat), due = "" → v = grV wd rows.length → (∀ rows', Good rows' → rows'.length = m → (∀ a b, tN rows' a b ↔ tn a b) → Rel rows' (grN wd rows.length) qrs) → Out A k v tn m H (fun x H1 => N [some (.ref k), some (.ref dd), some .non, some x, none] H1) (WE (wKeep K (Value.ref A.c_JoinError) 4 (fun a cls d => tAsg (tVar 4) (gName 2)) (fun _ _ _ _ => False) { nx := N, rt := Q }) [some (.ref k), some (.ref dd), some .non, some .non, none]) := fun v tn m de ev rel rows' G' ln ht => by
      subst ev
      have R' := rel rows' G' ln ht
      refine ⟨fun a b c d rf rr dx H1 nd e1 hr hx => ?_, fun rf wp' l' ds' H' nl' bt K' => hN _ _ (.inr (.inr ⟨de, rows', wp', l', ds', G', R', rf, rfl, nl', bt, K'⟩))⟩
      refine ⟨true, exmJ T in_nt, fun _ x hx' => ?_, fun z => nomatch z⟩
      simp
      intro nx
      exact hN _ _ (.inr (.inl ⟨de, rows', a, b, c, d, x, dx, rr, G', R', rf, rfl, e1.trans (Ex.new nx), ⟨upd_same, (Ex.new nx) _ _ hx⟩, (Ex.new nx) _ _ hr⟩))
    have gL : wd = "grow" → Lst1 H x := fun z => by
      rcases ok with ⟨_, L⟩ | ⟨wo, _⟩
      · exact L
      · rcases wo with w | w
        · exact absurd (z.symm.trans w) s4
        · exact absurd (z.symm.trans w) s5
    have gT : wd ≠ "grow" → Thing H x ∧ Thing H y := fun z => by
      rcases ok with ⟨w, _⟩ | ⟨_, t⟩
      · exact absurd w z
      · exact t
    have two : twoOk rows.length x y = okTwo rows x y := rfl
    clear ok
    cases du with
    | many h =>
      simp [and_assoc, hd, hk]
      exact ⟨k, wp, l, ds, rows, x, rfl, KA, gL rfl, fun _ H' e => err A.c_TooMany H' (by simp [kinds]) (by decide +kernel) e, fun z => (by omega), fun z => (by omega)⟩
    | gpoint h1 h2 =>
      simp [and_assoc, hd, hk]
      exact ⟨k, wp, l, ds, rows, x, rfl, KA, gL rfl, fun z => (by omega), fun _ _ H' e => err A.c_BadPoint H' (by simp [kinds]) (by decide +kernel) e, fun _ a ns hx hl nd r => absurd ⟨a, ns, hx, hl, nd, r⟩ h2⟩
    | grow h1 h2 h3 h4 =>
      simp [and_assoc, hd, hk]
      refine ⟨k, wp, l, ds, rows, _, rfl, KA, gL rfl, fun z => (by omega), fun _ nu => absurd ⟨_, _, rfl, h2, h3, h4⟩ nu, fun _ a ns hx hl nd r => ?_⟩
      cases hx
      have := hl.uniq h2
      subst this
      exact out _ _ _ rfl (by unfold grV; rw [if_pos rfl]) fun rows' G' ln ht => by
        unfold grN
        rw [if_pos rfl]
        exact rel_grow2 KA.good R ln nd r ht
    | point h1 h2 =>
      rcases h1 with rfl | rfl
      · simp [and_assoc, hd, hk, s1]
        refine ⟨k, wp, l, ds, rows, x, y, rfl, KA, (gT s1).1, (gT s1).2, fun _ H' e => err A.c_BadPoint H' (by simp [kinds]) (by decide +kernel) e, fun i j hx hy hi hj ij => ?_⟩
        rw [two] at h2
        subst hx hy
        have : okTwo rows (.int (i : Int)) (.int (j : Int)) = true := by
          unfold okTwo
          rw [okPt_of (by omega) (by simp; omega), okPt_of (by omega) (by simp; omega)]
          simp; omega
        rw [this] at h2
        cases h2
      · simp [and_assoc, hd, hk, s2, s3]
        refine ⟨k, wp, l, ds, rows, x, y, rfl, KA, (gT s2).1, (gT s2).2, fun _ H' e => err A.c_BadPoint H' (by simp [kinds]) (by decide +kernel) e, fun i j hx hy hi hj ij => ?_⟩
        rw [two] at h2
        subst hx hy
        have : okTwo rows (.int (i : Int)) (.int (j : Int)) = true := by
          unfold okTwo
          rw [okPt_of (by omega) (by simp; omega), okPt_of (by omega) (by simp; omega)]
          simp; omega
        rw [this] at h2
        cases h2
    | @twice i j h1 h2 h3 h4 =>
      simp [and_assoc, hd, hk, s1]
      have ok2 : okTwo rows (.int (i : Int)) (.int (j : Int)) = true := by
        unfold okTwo
        rw [okPt_of (by omega) (by simp; omega), okPt_of (by omega) (by simp; omega)]
        simp; omega
      refine ⟨k, wp, l, ds, rows, _, _, rfl, KA, (gT s1).1, (gT s1).2, fun z => (by rw [ok2] at z; cases z), fun i' j' hx hy hi hj ij => ⟨fun _ H' e => err A.c_Twice H' (by simp [kinds]) (by decide +kernel) e, fun t => ?_⟩⟩
      obtain ⟨rfl, rfl⟩ : i' = i ∧ j' = j := by
        have a1 : (i : Int) = i' := V.int.inj hx
        have a2 : (j : Int) = j' := V.int.inj hy
        omega
      have := (tied_iff rows _ _).mpr ((rel_mm KA.good R h3).mp h4)
      rw [this] at t
      cases t
    | @put i j h1 h2 h3 h4 =>
      simp [and_assoc, hd, hk, s1]
      have ok2 : okTwo rows (.int (i : Int)) (.int (j : Int)) = true := by
        unfold okTwo
        rw [okPt_of (by omega) (by simp; omega), okPt_of (by omega) (by simp; omega)]
        simp; omega
      refine ⟨k, wp, l, ds, rows, _, _, rfl, KA, (gT s1).1, (gT s1).2, fun z => (by rw [ok2] at z; cases z), fun i' j' hx hy hi hj ij => ⟨fun t => ?_, fun t => ?_⟩⟩
      · obtain ⟨rfl, rfl⟩ : i' = i ∧ j' = j := by
          have a1 : (i : Int) = i' := V.int.inj hx
          have a2 : (j : Int) = j' := V.int.inj hy
          omega
        exact absurd ((rel_mm KA.good R h3).mpr ((tied_iff rows _ _).mp t)) h4
      · obtain ⟨rfl, rfl⟩ : i' = i ∧ j' = j := by
          have a1 : (i : Int) = i' := V.int.inj hx
          have a2 : (j : Int) = j' := V.int.inj hy
          omega
        exact out _ _ _ rfl (by unfold grV; rw [if_neg s1]) fun rows' G' ln ht => by
          unfold grN
          rw [if_neg s1]
          exact rel_put2 R ln h3 h4 fun a b => by rw [ht]; simp
    | @take i j h1 h2 h3 h4 =>
      simp [and_assoc, hd, hk, s2, s3]
      have ok2 : okTwo rows (.int (i : Int)) (.int (j : Int)) = true := by
        unfold okTwo
        rw [okPt_of (by omega) (by simp; omega), okPt_of (by omega) (by simp; omega)]
        simp; omega
      refine ⟨k, wp, l, ds, rows, _, _, rfl, KA, (gT s2).1, (gT s2).2, fun z => (by rw [ok2] at z; cases z), fun i' j' hx hy hi hj ij => ⟨fun t => ?_, fun t => ?_⟩⟩
      · obtain ⟨rfl, rfl⟩ : i' = i ∧ j' = j := by
          have a1 : (i : Int) = i' := V.int.inj hx
          have a2 : (j : Int) = j' := V.int.inj hy
          omega
        have := (tied_iff rows _ _).mpr ((rel_mm KA.good R h3).mp h4)
        rw [this] at t
        cases t
      · obtain ⟨rfl, rfl⟩ : i' = i ∧ j' = j := by
          have a1 : (i : Int) = i' := V.int.inj hx
          have a2 : (j : Int) = j' := V.int.inj hy
          omega
        exact out _ _ _ rfl (by unfold grV; rw [if_neg s2]) fun rows' G' ln ht => by
          unfold grN
          rw [if_neg s2]
          exact rel_take2 R ln h3 fun a b => by rw [ht]; simp
    | @notie i j h1 h2 h3 h4 =>
      simp [and_assoc, hd, hk, s2, s3]
      have ok2 : okTwo rows (.int (i : Int)) (.int (j : Int)) = true := by
        unfold okTwo
        rw [okPt_of (by omega) (by simp; omega), okPt_of (by omega) (by simp; omega)]
        simp; omega
      refine ⟨k, wp, l, ds, rows, _, _, rfl, KA, (gT s2).1, (gT s2).2, fun z => (by rw [ok2] at z; cases z), fun i' j' hx hy hi hj ij => ⟨fun _ H' e => err A.c_NoTie H' (by simp [kinds]) (by decide +kernel) e, fun t => ?_⟩⟩
      obtain ⟨rfl, rfl⟩ : i' = i ∧ j' = j := by
        have a1 : (i : Int) = i' := V.int.inj hx
        have a2 : (j : Int) = j' := V.int.inj hy
        omega
      exact absurd ((rel_mm KA.good R h3).mpr ((tied_iff rows _ _).mp t)) h4
end
end Jk

namespace Jk
open PySem L2 Evl

/-! ## a row of pairs is a row of the web -/
theorem Rel.web {rows : List (List Int)} {n : Int} {prs : List (Int × Int)} (G : Good rows) (R : Rel rows n prs) : WebPrs rows.length prs :=
  ⟨R.nd, fun p hp => by
    obtain ⟨i, j, e, l, t⟩ := (R.ti p).mp hp
    exact ⟨i, j, e, l, (G.lt t).2⟩⟩
theorem tieP_tied {rows : List (List Int)} {n : Int} {prs : List (Int × Int)} (G : Good rows) (R : Rel rows n prs) {x y : Int} (hx : 0 ≤ x ∧ x < rows.length) (hy : 0 ≤ y ∧ y < rows.length) : tieP prs x y = tied rows x y := by
  have h : tieP prs x y = true ↔ tied rows x y = true := by
    rw [tieP_iff, nearL_iff]
    constructor
    · rintro (z | z)
      · obtain ⟨i, j, e, _, t⟩ := (R.ti _).mp z
        cases e
        exact (tied_iff rows i j).mpr t
      · obtain ⟨i, j, e, _, t⟩ := (R.ti _).mp z
        cases e
        exact (tied_iff rows j i).mpr (G.symm t)
    · intro t
      obtain ⟨i, rfl⟩ : ∃ i : Nat, x = (i : Int) := ⟨x.toNat, by omega⟩
      obtain ⟨j, rfl⟩ : ∃ j : Nat, y = (j : Int) := ⟨y.toNat, by omega⟩
      have t' := (tied_iff rows i j).mp t
      rcases Nat.lt_trichotomy i j with z | z | z
      · exact .inl ((R.ti _).mpr ⟨i, j, rfl, z, t'⟩)
      · subst z
        exact absurd t' (G.irr i)
      · exact .inr ((R.ti _).mpr ⟨j, i, rfl, z, G.symm t'⟩)
  cases a : tieP prs x y <;> cases b : tied rows x y <;> simp_all
theorem hasRow_iff {rows : List (List Int)} {n : Int} {prs : List (Int × Int)} (G : Good rows) (R : Rel rows n prs) : HasRow prs ↔ rowF (nearF rows) (tiesL rows) ≠ none := by
  constructor
  · rintro ⟨a, b, c, d, r1, r2, r3, r4, r5, r6⟩ z
    have W := R.web G
    have i1 := nearL_in W (tieP_iff.mp r1)
    have i3 := nearL_in W (tieP_iff.mp r3)
    have ia : 0 ≤ a ∧ a < rows.length := ⟨i1.2.1, i1.2.2.1⟩
    have ib := i1.1
    have ic : 0 ≤ c ∧ c < rows.length := ⟨i3.2.1, i3.2.2.1⟩
    have id := i3.1
    rw [tieP_tied G R ia ib] at r1
    rw [tieP_tied G R ib ic] at r2
    rw [tieP_tied G R ic id] at r3
    rw [tieP_tied G R ia ic] at r4
    rw [tieP_tied G R ia id] at r5
    rw [tieP_tied G R ib id] at r6
    exact row_none G z a (rng_in.mpr ia) b (rng_in.mpr ib) c (rng_in.mpr ic) d (rng_in.mpr id) ⟨r1, r2, r3, r4, r5, r6⟩
  · intro z
    cases rf : rowF (nearF rows) (tiesL rows) with
    | none => exact absurd rf z
    | some q =>
      obtain ⟨a, b, c, d⟩ := q
      obtain ⟨i, r1, r2, r3, r4, r5, r6⟩ := row_sound G rf
      have ia := i a (by simp)
      have ib := i b (by simp)
      have ic := i c (by simp)
      have id := i d (by simp)
      exact ⟨a, b, c, d, by rw [tieP_tied G R ia ib]; exact r1, by rw [tieP_tied G R ib ic]; exact r2, by rw [tieP_tied G R ic id]; exact r3, by rw [tieP_tied G R ia ic]; exact r4, by rw [tieP_tied G R ia id]; exact r5, by rw [tieP_tied G R ib id]; exact r6⟩
theorem DeedOk.th {H : Hp} {wd : Str} {x y : V} (h : DeedOk H wd x y) : Thing H x := by
  rcases h with ⟨_, L⟩ | ⟨_, t, _⟩
  · exact L.th
  · exact t
theorem DeedOk.up {H H' : Hp} {wd : Str} {x y : V} (h : DeedOk H wd x y) (e : Ex H H') : DeedOk H' wd x y := by
  rcases h with ⟨w, L⟩ | ⟨w, t1, t2⟩
  · exact .inl ⟨w, L.up e⟩
  · exact .inr ⟨w, t1.up e, t2.up e⟩
theorem DueR.up {H H' : Hp} {n : Nat} {prs qrs : List (Int × Int)} {wd due : Str} {x y : V} (h : DueR H n prs wd x y due qrs) (t : Thing H x) (e : Ex H H') : DueR H' n prs wd x y due qrs := by
  cases h with
  | many h => exact .many h
  | gpoint h1 h2 => exact .gpoint h1 fun u => h2 (Unl.back t e u)
  | grow h1 h2 h3 h4 => exact .grow h1 (e _ _ h2) h3 h4
  | point h1 h2 => exact .point h1 h2
  | twice h1 h2 h3 h4 => exact .twice h1 h2 h3 h4
  | put h1 h2 h3 h4 => exact .put h1 h2 h3 h4
  | take h1 h2 h3 h4 => exact .take h1 h2 h3 h4
  | notie h1 h2 h3 h4 => exact .notie h1 h2 h3 h4
theorem due_kind {A : Adr} {H : Hp} {n : Nat} {prs qrs : List (Int × Int)} {wd due : Str} {x y : V} (h : DueR H n prs wd x y due qrs) : due = "" ∨ ∃ D, (D, due) ∈ kinds A := by
  cases h with
  | many h => exact .inr ⟨A.c_TooMany, by simp [kinds]⟩
  | gpoint h1 h2 => exact .inr ⟨A.c_BadPoint, by simp [kinds]⟩
  | grow h1 h2 h3 h4 => exact .inl rfl
  | point h1 h2 => exact .inr ⟨A.c_BadPoint, by simp [kinds]⟩
  | twice h1 h2 h3 h4 => exact .inr ⟨A.c_Twice, by simp [kinds]⟩
  | put h1 h2 h3 h4 => exact .inl rfl
  | take h1 h2 h3 h4 => exact .inl rfl
  | notie h1 h2 h3 h4 => exact .inr ⟨A.c_NoTie, by simp [kinds]⟩
theorem own_put1 (n : Nat) (q : Addr) (v : V) : putK (ownK n q) (Sum.inr ("many" : Str)) v = [(Sum.inr ("many" : Str), v), (Sum.inr ("ties" : Str), .ref q)] := by
  unfold ownK
  rfl
theorem own_put2 (q q' : Addr) (v : V) : putK [((Sum.inr ("many" : Str) : Key), v), (Sum.inr ("ties" : Str), .ref q)] (Sum.inr ("ties" : Str)) (.ref q') = [(Sum.inr ("many" : Str), v), (Sum.inr ("ties" : Str), .ref q')] := by
  rfl
/-- a kept web and the law's own dict of it -/
structure StAt (A : Adr) (H : Hp) (k ow wp l q : Addr) (ds : List Addr) (rows : List (List Int)) (prs : List (Int × Int)) : Prop where
  kept : KeptAt A H k wp l ds rows
  own : H ow = some (.dK (ownK rows.length q))
  ls : LsP H q prs
  rel : Rel rows (rows.length : Int) prs
  no : rowF (nearF rows) (tiesL rows) = none
theorem StAt.up {A : Adr} {H H' : Hp} {k ow wp l q : Addr} {ds : List Addr} {rows : List (List Int)} {prs : List (Int × Int)} (h : StAt A H k ow wp l q ds rows prs) (e : Ex H H') : StAt A H' k ow wp l q ds rows prs := ⟨h.kept.up e, e _ _ h.own, h.ls.up e, h.rel, h.no⟩
def KO (A : Adr) (H : Hp) (m : Addr) : Prop := (∃ dx wp, H m = some (.ins A.c_Kept dx (wfK wp))) ∨ ∃ n q, H m = some (.dK (ownK n q))
theorem KO.web {A : Adr} {C : Addr} {H : Hp} {p l m : Addr} {ds : List Addr} {rows : List (List Int)} (h : KO A H m) (W : WebAt C H p l ds rows) : m ≠ p ∧ m ≠ l ∧ m ∉ ds := by
  obtain ⟨⟨dw, v1⟩, v2, v3, v4, v5⟩ := W
  refine ⟨fun e => ?_, fun e => ?_, fun e => ?_⟩
  · subst e
    rcases h with ⟨dx, wp, z⟩ | ⟨n, q, z⟩
    · rw [v1] at z
      cases z
    · rw [v1] at z
      cases z
  · subst e
    rcases h with ⟨dx, wp, z⟩ | ⟨n, q, z⟩
    · exact absurd (v2.symm.trans z) (fun y => by cases y)
    · exact absurd (v2.symm.trans z) (fun y => by cases y)
  · obtain ⟨i, hi, rfl⟩ := List.mem_iff_getElem.mp e
    have g := v5 i _ _ (List.getElem?_eq_getElem hi) (List.getElem?_eq_getElem (by rw [← v4]; exact hi))
    rcases h with ⟨dx, wp, z⟩ | ⟨n, q, z⟩
    · rw [g] at z
      cases z
    · rw [g] at z
      have e2 : rowD (rows[i]'(by rw [← v4]; exact hi)) = ownK n q := HO.dK.inj (Option.some.inj z)
      generalize rows[i]'(by rw [← v4]; exact hi) = r at e2
      cases r with
      | nil => cases e2
      | cons a r => cases e2
theorem KO.lst {A : Adr} {H : Hp} {m a : Addr} {xs : List V} (h : KO A H m) (z : H a = some (.lst xs)) : a ≠ m := fun e => by
  subst e
  rcases h with ⟨_, _, y⟩ | ⟨_, _, y⟩ <;> rw [z] at y <;> cases y
theorem KO.tup {A : Adr} {H : Hp} {m a : Addr} {xs : List V} (h : KO A H m) (z : H a = some (.tup xs)) : a ≠ m := fun e => by
  subst e
  rcases h with ⟨_, _, y⟩ | ⟨_, _, y⟩ <;> rw [z] at y <;> cases y
theorem KeptAt.but {A : Adr} {H H' : Hp} {M : List Addr} {k wp l : Addr} {ds : List Addr} {rows : List (List Int)} (h : KeptAt A H k wp l ds rows) (b : But M H H') (hM : ∀ m ∈ M, KO A H m) (hk : k ∉ M) : KeptAt A H' k wp l ds rows :=
  ⟨let ⟨dx, z⟩ := h.ob; ⟨dx, b.kp _ _ z hk⟩, h.web.but b fun m hm => (hM m hm).web h.web, h.good⟩
theorem LsP.but {A : Adr} {H H' : Hp} {M : List Addr} {q : Addr} {prs : List (Int × Int)} (h : LsP H q prs) (b : But M H H') (hM : ∀ m ∈ M, KO A H m) : LsP H' q prs := by
  obtain ⟨us, u1, u2⟩ := h
  exact ⟨us, b.kp _ _ u1 fun z => (hM _ z).lst u1 rfl, u2.map fun t o z => b.kp _ _ z fun y => (hM _ y).tup z rfl⟩
theorem StAt.but {A : Adr} {H H' : Hp} {M : List Addr} {k ow wp l q : Addr} {ds : List Addr} {rows : List (List Int)} {prs : List (Int × Int)} (h : StAt A H k ow wp l q ds rows prs) (b : But M H H') (hM : ∀ m ∈ M, KO A H m) (hk : k ∉ M) (ho : ow ∉ M) : StAt A H' k ow wp l q ds rows prs :=
  ⟨h.kept.but b hM hk, b.kp _ _ h.own ho, h.ls.but b hM, h.rel, h.no⟩
def spDone (A : Adr) : Sp := fun vs H Q _ => ∃ (k ow wp l q dd : Addr) (ds : List Addr) (rows : List (List Int)) (prs : List (Int × Int)) (wd : Str) (x y : V), vs = [.ref k, .ref ow, .ref dd] ∧ StAt A H k ow wp l q ds rows prs ∧ H dd = some (.tup [.str wd, x, y]) ∧ DeedOk H wd x y ∧
  ∀ wp' l' q' ds' rows' prs' H', (l' = l ∨ H l' = none) → (q' = q ∨ H q' = none) → But [k, ow] H H' → StAt A H' k ow wp' l' q' ds' rows' prs' → Q (.bl true) H'
section
variable {P : Program} {w : World} {K : PySem.W.Frag} {mg : Str → Option Value} {base : Heap} {A : Adr}
theorem ok_l_done (T : Txt K mg A) : FnOk P w K mg base CX0 9 A.a_l_done A.d_l_done ["_law_kept", "_law_own", "_law_deed_here"] (spDone A) := by
  refine T.F_l_done.ok sc_l_done (fun vs H Q E h => ?_) (fun cdv C outer s H vs Q E hr h => ?_)
  · obtain ⟨k, ow, wp, l, q, dd, ds, rows, prs, wd, x, y, rfl, _⟩ := h
    rfl
  · obtain ⟨k, ow, wp, l, q, dd, ds, rows, prs, wd, x, y, rfl, Z, hd, ok, fin⟩ := h
    have hu := hu_of hr
    have G := Z.kept.good
    have few := G.few
    have one := G.one
    have pf := Z.rel.few G
    refine ⟨_, (pss_cons (ps_asg (pe_call (ok_l_due T) (hr.mono (by omega)) rfl T.g_l_due T.k_l_due T.b_l_due .nil pass0 (pa_cons (pv 1) (pa_cons (pv 2) pa_nil))) (pg_tupJ (n := 2) rfl (pgs_cons (pg_name (i := 3) sc_l_done.nd rfl (.inl rfl)) (pgs_cons (pg_name (i := 4) sc_l_done.nd rfl (.inl rfl)) pgs_nil))))
  (pss_cons (ps_asg (pe_call (ok_l_said T) (hr.mono (by omega)) rfl T.g_l_said T.k_l_said T.b_l_said .nil pass0 (pa_cons (pv 0) (pa_cons (pv 2) pa_nil))) (pg_tupJ (n := 2) rfl (pgs_cons (pg_name (i := 5) sc_l_done.nd rfl (.inl rfl)) (pgs_cons (pg_name (i := 6) sc_l_done.nd rfl (.inl rfl)) pgs_nil))))
  (pss_cons (ps_set (i := 7) sc_l_done.nd rfl (Or.inl rfl) (pe_op op_add (pe_dgetJ (by exact hu) (pv 1) pe_str (fun _ _ => rfl)) (pe_callTy call_int1 (by rfl) T.int (by decide +kernel) (pa_cons (pe_cmpR op_eq (pe_ix ix_tupJ (pv 2) pe_int (fun _ _ => rfl)) pe_str (nomark _)) pa_nil))))
  (pss_cons (ps_if (PW.pt (pw_and (pt_cmpR op_eq (pv 3) pe_str (nomark _)) (pw_and1 (pt_val (pe_call (ok_l_has_row T) (hr.mono (by omega)) rfl T.g_l_has_row T.k_l_has_row T.b_l_has_row .nil pass0 (pa_cons (pv 7) (pa_cons (pv 4) pa_nil)))))))
    (pss_one (ps_ret (pe_and (pe_cmpR op_notN (pv 5) pe_non (nomark _)) (pe_and (pe_cmpR op_eq (pe_call (ok_l_kind T) (hr.mono (by omega)) rfl T.g_l_kind T.k_l_kind T.b_l_kind .nil pass0 (pa_cons (pv 5) pa_nil)) pe_str (nomark _)) (pe_one (pe_call (ok_l_is_row T) (hr.mono (by omega)) rfl T.g_l_is_row T.k_l_is_row T.b_l_is_row .nil pass0 (pa_cons (pe_xfld (K0 := K) (pv 5)) (pa_cons (pv 7) (pa_cons (pv 4) pa_nil)))))))))
    pss_nil)
  (pss_cons (ps_if (PW.pt (pw_or (pt_cmpR op_ne (pv 3) pe_str (nomark _)) (pw_or1 (pt_cmpR op_notN (pv 5) pe_non (nomark _)))))
    (pss_one (ps_ret (pe_and (pe_cmpR op_notN (pv 5) pe_non (nomark _)) (pe_one (pe_cmpR op_eq (pe_call (ok_l_kind T) (hr.mono (by omega)) rfl T.g_l_kind T.k_l_kind T.b_l_kind .nil pass0 (pa_cons (pv 5) pa_nil)) (pv 3) (nomark _))))))
    pss_nil)
  (pss_cons (ps_dputJ (by exact hu) (pv 1) pe_str (pv 7) rfl)
  (pss_cons (ps_dputJ (by exact hu) (pv 1) pe_str (pv 4) rfl)
  (pss_cons (ps_if (pt_cmpR op_eq (pe_ix ix_tupJ (pv 2) pe_int (fun _ _ => rfl)) pe_str (nomark _))
    (pss_one (ps_ret (pe_and (pe_call (ok_l_whole T) (hr.mono (by omega)) rfl T.g_l_whole T.k_l_whole T.b_l_whole .nil pass0 (pa_cons (pv 6) pa_nil)) (pe_one (pe_cmpR op_eq (pv 6) (pe_op op_sub (pv 7) pe_int) (nomark _))))))
    pss_nil)
  (pss_one (ps_ret (pe_cmpR op_isN (pv 6) pe_non (nomark _)))))))))))), ?_⟩
    refine seq_by (fun σ1 H1 => ∃ due qrs ql, σ1 = [some (.ref k), some (.ref ow), some (.ref dd), some (.str due), some (.ref ql), none, none, none] ∧ DueR H rows.length prs wd x y due qrs ∧ H ql = none ∧ Ex H H1 ∧ LsP H1 ql qrs) (fun N hN => ?_) (fun s1 H1 m => ?_)
    · simp [L2.start]
      refine ⟨ow, dd, q, rows.length, prs, wd, x, y, rfl, Z.own, Z.ls, pf, one, few, hd, ok, fun due qrs r ql H1 du nr nq e1 hr1 hl => ⟨_, _, rfl, hr1, rfl, ?_⟩⟩
      simp
      exact hN _ _ ⟨due, qrs, ql, rfl, du, nq, e1, hl⟩
    obtain ⟨due, qrs, ql, rfl, du, nq, e1, hql⟩ := m
    obtain ⟨us, hu1, hu2⟩ := id hql
    refine seq_by (fun σ1 H2 =>
      (due ≠ "" ∧ ∃ D a, (D, due) ∈ kinds A ∧ σ1 = [some (.ref k), some (.ref ow), some (.ref dd), some (.str due), some (.ref ql), some (.ref a), some .non, none] ∧ Ex H1 H2 ∧ H2 a = some (ExK (.ref D) none a)) ∨
      (due = "" ∧ ∃ rows' a b c d x dx rr, Good rows' ∧ Rel rows' (grN wd rows.length) qrs ∧ rowF (nearF rows') (tiesL rows') = some (a, b, c, d) ∧ σ1 = [some (.ref k), some (.ref ow), some (.ref dd), some (.str due), some (.ref ql), some (.ref x), some .non, none] ∧ Ex H1 H2 ∧ KeptX H2 x A.c_NoTree dx (rowX (.ref rr)) ∧ H2 rr = some (.tup [.int a, .int b, .int c, .int d])) ∨
      (due = "" ∧ ∃ rows' wp' l' ds', Good rows' ∧ Rel rows' (grN wd rows.length) qrs ∧ rowF (nearF rows') (tiesL rows') = none ∧ σ1 = [some (.ref k), some (.ref ow), some (.ref dd), some (.str due), some (.ref ql), some .non, some (grV wd rows.length), none] ∧ H1 l' = none ∧ But [k] H1 H2 ∧ KeptAt A H2 k wp' l' ds' rows')) (fun N hN => ?_) (fun s1 H2 m => ?_)
    · simp
      refine ⟨k, dd, wp, l, ds, rows, rows.length, prs, qrs, wd, due, x, y, rfl, Z.kept.up e1, Z.rel, e1 _ _ hd, ok.up e1, du.up ok.th e1, fun ne D a r H2 hD e2 nr ha hr2 => ⟨_, _, rfl, hr2, rfl, ?_⟩, fun de rows' G' R' => ⟨fun a b c d rf x dx rr r H2 e2 kx hrr nr hr2 => ⟨_, _, rfl, hr2, rfl, ?_⟩, fun rf wp' l' ds' r H2 nl' b2 K2 nr hr2 => ⟨_, _, rfl, hr2, rfl, ?_⟩⟩⟩
      · simp
        exact hN _ _ (.inl ⟨ne, D, a, hD, rfl, e2, ha⟩)
      · simp
        exact hN _ _ (.inr (.inl ⟨de, rows', a, b, c, d, x, dx, rr, G', R', rf, rfl, e2, kx, hrr⟩))
      · simp
        exact hN _ _ (.inr (.inr ⟨de, rows', wp', l', ds', G', R', rf, rfl, nl', b2, K2⟩))
    obtain ⟨dk, hk⟩ := Z.kept.ob
    have wk : ow ≠ k := fun e => by have := Z.own; rw [e, hk] at this; cases this
    have dk' : dd ≠ k := fun e => by have := hd; rw [e, hk] at this; cases this
    have bt : But [k] H H2 := by
      rcases m with ⟨_, _, _, _, _, e2, _⟩ | ⟨_, _, _, _, _, _, _, _, _, _, _, _, _, e2, _⟩ | ⟨_, _, _, _, _, _, _, _, _, _, b2, _⟩
      · exact But.of_ex (e1.trans e2)
      · exact But.of_ex (e1.trans e2)
      · exact (But.of_ex e1).trans b2
    have hw2 := bt.kp _ _ Z.own (by simpa using wk)
    have hd2 := bt.kp _ _ hd (by simpa using dk')
    have hok : ∀ (b : Addr) (o : HO), H1 b = some o → (∀ C d fs, o ≠ .ins C d fs) → b ≠ k := fun b o h no e => by
      rw [e, e1 _ _ hk] at h
      exact no _ _ _ (Option.some.inj h).symm
    have hql2 : LsP H2 ql qrs := by
      rcases m with ⟨_, _, _, _, _, e2, _⟩ | ⟨_, _, _, _, _, _, _, _, _, _, _, _, _, e2, _⟩ | ⟨_, _, _, _, _, _, _, _, _, _, b2, _⟩
      · exact hql.up e2
      · exact hql.up e2
      · exact ⟨us, b2.kp _ _ hu1 (by simpa using hok _ _ hu1 fun _ _ _ z => by cases z), hu2.map fun t o z => b2.kp _ _ z (by simpa using hok _ _ z fun _ _ _ z => by cases z)⟩
    rcases m with ⟨ne, D, a, hD, rfl, e2, ha⟩ | ⟨de, rows', a, b, c, d, x', dx, rr, G', R', rf, rfl, e2, kx, hrr⟩ | ⟨de, rows', wp', l', ds', G', R', rf, rfl, nl', b2, K2⟩
    · -- refused
      refine seq_by (fun σ1 H3 => σ1 = [some (.ref k), some (.ref ow), some (.ref dd), some (.str due), some (.ref ql), some (.ref a), some .non, some (.int (grN wd rows.length))] ∧ H2 = H3) (fun N hN => ?_) (fun s1 H3 m => ?_)
      · simp [and_assoc, hw2, own_many, hd2, rInt1]
        by_cases cw : wd = "grow"
        · exact .inr ⟨cw, hN _ _ ⟨by unfold grN; rw [if_pos cw], rfl⟩⟩
        · exact .inl ⟨cw, hN _ _ ⟨by unfold grN; rw [if_neg cw], rfl⟩⟩
      obtain ⟨rfl, rfl⟩ := m
      refine seq_by (fun σ1 H3 => σ1 = [some (.ref k), some (.ref ow), some (.ref dd), some (.str due), some (.ref ql), some (.ref a), some .non, some (.int (grN wd rows.length))] ∧ H2 = H3) (fun N hN => ?_) (fun s1 H3 m => ?_)
      · simp [and_assoc]
        exact .inl ⟨ne, hN _ _ ⟨rfl, rfl⟩⟩
      obtain ⟨rfl, rfl⟩ := m
      refine seq_by (fun _ _ => False) (fun N hN => ?_) (fun s1 H1 m => False.elim m)
      simp [and_assoc, ne]
      refine ⟨a, D, due, rfl, .inl ha, hD, fun H3 e3 => ?_⟩
      change rEq (.str due) (.str due) H3 _
      rw [j_eq_ss, decide_eq_true rfl]
      exact fin wp l q ds rows prs H3 (.inl rfl) (.inl rfl) (But.of_ex (e1.trans (e2.trans e3))) (Z.up (e1.trans (e2.trans e3)))
    · -- a row
      subst de
      refine seq_by (fun σ1 H3 => σ1 = [some (.ref k), some (.ref ow), some (.ref dd), some (.str ""), some (.ref ql), some (.ref x'), some .non, some (.int (grN wd rows.length))] ∧ H2 = H3) (fun N hN => ?_) (fun s1 H3 m => ?_)
      · simp [and_assoc, hw2, own_many, hd2, rInt1]
        by_cases cw : wd = "grow"
        · exact .inr ⟨cw, hN _ _ ⟨by unfold grN; rw [if_pos cw], rfl⟩⟩
        · exact .inl ⟨cw, hN _ _ ⟨by unfold grN; rw [if_neg cw], rfl⟩⟩
      obtain ⟨rfl, rfl⟩ := m
      refine seq_by (fun _ _ => False) (fun N hN => ?_) (fun s1 H1 m => False.elim m)
      simp [and_assoc]
      have rs := row_sound G' rf
      have few' := G'.few
      have rn' := R'.n
      refine ⟨rows'.length, ql, qrs, by rw [rn'], by omega, hql2, R'.web G', by have := R'.few G'; omega, fun b' H3 hb e3 => ?_⟩
      have bt' : b' = true := hb.mpr ((hasRow_iff G' R').mpr (by rw [rf]; exact fun z => by cases z))
      refine .inr ⟨by rw [bt'], x', A.c_NoTree, "row", rfl, .inr ⟨dx, _, kx.up e3⟩, in_nt, fun H4 e4 => ?_⟩
      change rEq (.str "row") (.str "row") H4 _
      rw [j_eq_ss, decide_eq_true rfl]
      refine .inr ⟨rfl, A.c_NoTree, dx, _, kx.up (e3.trans e4), T.xf_NoTree, T.nt.rowA, _, rowX_get _, rr, ql, rows', grN wd rows.length, qrs, a, b, c, d, rfl, (e3.trans e4) _ _ hrr, G', R', hql2.up (e3.trans e4), rs.1, rs.2, fun H5 e5 => ?_⟩
      have e05 := e1.trans (e2.trans (e3.trans (e4.trans e5)))
      exact fin wp l q ds rows prs H5 (.inl rfl) (.inl rfl) (But.of_ex e05) (Z.up e05)
    · -- done
      subst de
      refine seq_by (fun σ1 H3 => σ1 = [some (.ref k), some (.ref ow), some (.ref dd), some (.str ""), some (.ref ql), some .non, some (grV wd rows.length), some (.int (grN wd rows.length))] ∧ H2 = H3) (fun N hN => ?_) (fun s1 H3 m => ?_)
      · simp [and_assoc, hw2, own_many, hd2, rInt1]
        by_cases cw : wd = "grow"
        · exact .inr ⟨cw, hN _ _ ⟨by unfold grN; rw [if_pos cw], rfl⟩⟩
        · exact .inl ⟨cw, hN _ _ ⟨by unfold grN; rw [if_neg cw], rfl⟩⟩
      obtain ⟨rfl, rfl⟩ := m
      have few' := G'.few
      have rn' := R'.n
      refine seq_by (fun σ1 H3 => σ1 = [some (.ref k), some (.ref ow), some (.ref dd), some (.str ""), some (.ref ql), some .non, some (grV wd rows.length), some (.int (grN wd rows.length))] ∧ Ex H2 H3) (fun N hN => ?_) (fun s1 H3 m => ?_)
      · simp [and_assoc]
        refine ⟨rows'.length, ql, qrs, by rw [rn'], by omega, hql2, R'.web G', by have := R'.few G'; omega, fun b' H3 hb e3 => ?_⟩
        have bf' : b' = false := by
          cases b' with
          | false => rfl
          | true => exact absurd rf ((hasRow_iff G' R').mp (hb.mp rfl))
        exact .inl ⟨by rw [bf'], hN _ _ ⟨rfl, e3⟩⟩
      obtain ⟨rfl, e3⟩ := m
      refine seq_by (fun σ1 H4 => σ1 = [some (.ref k), some (.ref ow), some (.ref dd), some (.str ""), some (.ref ql), some .non, some (grV wd rows.length), some (.int (grN wd rows.length))] ∧ H3 = H4) (fun N hN => ?_) (fun s1 H4 m => ?_)
      · simp [and_assoc]
        exact hN _ _ ⟨rfl, rfl⟩
      obtain ⟨rfl, rfl⟩ := m
      have hw3 := e3 _ _ hw2
      refine seq_by (fun σ1 H4 => σ1 = [some (.ref k), some (.ref ow), some (.ref dd), some (.str ""), some (.ref ql), some .non, some (grV wd rows.length), some (.int (grN wd rows.length))] ∧ H4 = upd H3 ow (.dK [(Sum.inr ("many" : Str), .int (grN wd rows.length)), (Sum.inr ("ties" : Str), .ref q)])) (fun N hN => ?_) (fun s1 H4 m => ?_)
      · simp [and_assoc, hw3]
        refine ⟨by show 2 ≤ 100000; omega, ?_⟩
        rw [own_put1]
        exact hN _ _ ⟨rfl, rfl⟩
      obtain ⟨rfl, rfl⟩ := m
      refine seq_by (fun σ1 H5 => σ1 = [some (.ref k), some (.ref ow), some (.ref dd), some (.str ""), some (.ref ql), some .non, some (grV wd rows.length), some (.int (grN wd rows.length))] ∧ H5 = upd (upd H3 ow (.dK [(Sum.inr ("many" : Str), .int (grN wd rows.length)), (Sum.inr ("ties" : Str), .ref q)])) ow (.dK [(Sum.inr ("many" : Str), .int (grN wd rows.length)), (Sum.inr ("ties" : Str), .ref ql)])) (fun N hN => ?_) (fun s1 H5 m => ?_)
      · simp [and_assoc, upd_same]
        rw [own_put2]
        exact hN _ _ ⟨rfl, rfl⟩
      obtain ⟨rfl, e5⟩ := m
      have ko3 : KO A H3 ow := .inr ⟨_, _, hw3⟩
      have b35 : But [ow] H3 H5 := by
        rw [e5]
        exact (But.upd (by simp)).updT (by simp)
      have hM : ∀ m ∈ [ow], KO A H3 m := fun m hm => by simp at hm; subst hm; exact ko3
      have st : StAt A H5 k ow wp' l' ql ds' rows' qrs := by
        refine ⟨(K2.up e3).but b35 hM (by simpa using fun e => wk e.symm), ?_, (hql2.up e3).but b35 hM, by rw [← rn']; exact R', rf⟩
        rw [e5, upd_same]
        unfold ownK
        rw [rn']
      have b05 : But [k, ow] H H5 := ((bt.mono (by simp)).trans (But.of_ex e3)).trans (b35.mono (by simp))
      have hd5 : H5 dd = some (.tup [.str wd, x, y]) := b35.kp _ _ (e3 _ _ hd2) (by simpa using ko3.tup (e3 _ _ hd2))
      by_cases cw : wd = "grow"
      · refine seq_by (fun _ _ => False) (fun N hN => ?_) (fun s1 H1 m => False.elim m)
        subst cw
        have gn : grN "grow" rows.length = rows.length + 1 := by unfold grN; rw [if_pos rfl]
        have gv : grV "grow" rows.length = .int rows.length := by unfold grV; rw [if_pos rfl]
        simp [and_assoc, hd5, gn, gv]
        exact ⟨rows.length, rfl, .inr ⟨rfl, fin wp' l' ql ds' rows' qrs H5 (.inr (fresh_back e1 nl')) (.inr nq) b05 st⟩⟩
      · refine seq_by (fun σ1 H6 => σ1 = [some (.ref k), some (.ref ow), some (.ref dd), some (.str ""), some (.ref ql), some .non, some (grV wd rows.length), some (.int (grN wd rows.length))] ∧ H5 = H6) (fun N hN => ?_) (fun s1 H6 m => ?_)
        · simp [and_assoc, hd5, cw]
          exact hN _ _ ⟨rfl, rfl⟩
        obtain ⟨rfl, rfl⟩ := m
        have gv : grV wd rows.length = .non := by unfold grV; rw [if_neg cw]
        simp [gv]
        exact fin wp' l' ql ds' rows' qrs H5 (.inr (fresh_back e1 nl')) (.inr nq) b05 st
end
end Jk

namespace Jk
open PySem L2 Evl

def spRight (A : Adr) : Sp := fun vs H Q _ => ∃ (k ow wp l q : Addr) (ds : List Addr) (rows : List (List Int)) (prs : List (Int × Int)), vs = [.ref k, .ref ow] ∧ StAt A H k ow wp l q ds rows prs ∧ ∀ H', Ex H H' → Q (.bl true) H'
section
variable {P : Program} {w : World} {K : PySem.W.Frag} {mg : Str → Option Value} {base : Heap} {A : Adr}
theorem ok_l_right (T : Txt K mg A) : FnOk P w K mg base CX0 36 A.a_l_right A.d_l_right ["_law_kept", "_law_own"] (spRight A) := by
  refine T.F_l_right.ok sc_l_right (fun vs H Q E h => ?_) (fun cdv C outer s H vs Q E hr h => ?_)
  · obtain ⟨k, ow, wp, l, q, ds, rows, prs, rfl, _⟩ := h
    rfl
  · obtain ⟨k, ow, wp, l, q, ds, rows, prs, rfl, Z, fin⟩ := h
    have hu := hu_of hr
    have G := Z.kept.good
    have few := G.few
    obtain ⟨dk, hk⟩ := Z.kept.ob
    refine ⟨_, (pss_cons (ps_set (i := 2) sc_l_right.nd rfl (Or.inl rfl) (pe_meth0 (pv 0) T.cl_Kept T.m_Kept_web (ok_Kept_web T) (hr.mono (by omega)) T.b_Kept_web .nil pass0))
  (pss_cons (ps_if (PW.pt (pw_or (pt_not (pt_val (pe_callB call_isC (by rfl) T.isinstance (by decide +kernel) (pa_cons (pv 2) (pa_cons (pe_glob (v := .ref A.c_Web) rfl T.gWeb rfl) pa_nil))))) (pw_or (pt_cmpR op_ne (pe_meth0 (pv 2) T.cl_Web T.m_Web_many (ok_Web_many T) (hr.mono (by omega)) T.b_Web_many .nil pass0) (pe_dgetJ (by exact hu) (pv 1) pe_str (fun _ _ => rfl)) (nomark _)) (pw_or1 (pt_cmpR (op_neP hr.units) (pe_meth0 (pv 2) T.cl_Web T.m_Web_ties (ok_Web_ties T) (hr.mono (by omega)) T.b_Web_ties .nil pass0) (pe_callB call_sortP (by rfl) T.sorted (by decide +kernel) (pa_cons (pe_dgetJ (by exact hu) (pv 1) pe_str (fun _ _ => rfl)) pa_nil)) (nomark _))))))
    (pss_one (ps_ret pe_bl))
    pss_nil)
  (pss_cons (ps_if (pt_cmpR (op_neP hr.units) (pe_dgetJ (by exact hu) (pv 1) pe_str (fun _ _ => rfl)) (pe_lstJ pa_nil) (nomark _))
    (pss_one (ps_expr (pe_meth (pv 2) T.cl_Web T.m_Web_take (ok_Web_take T) (hr.mono (by omega)) T.b_Web_take .nil passL (pa_cons (pe_ix ix_tupJ (pe_ix ix_listJ (pe_dgetJ (by exact hu) (pv 1) pe_str (fun _ _ => rfl)) pe_int (fun _ _ => rfl)) pe_int (fun _ _ => rfl)) (pa_cons (pe_ix ix_tupJ (pe_ix ix_listJ (pe_dgetJ (by exact hu) (pv 1) pe_str (fun _ _ => rfl)) pe_int (fun _ _ => rfl)) pe_int (fun _ _ => rfl)) pa_nil)))))
    (pss_one (ps_if (pt_cmpR op_lt (pe_dgetJ (by exact hu) (pv 1) pe_str (fun _ _ => rfl)) pe_int (nomark _))
        (pss_one (ps_expr (pe_meth0 (pv 2) T.cl_Web T.m_Web_grow (ok_Web_grow T) (hr.mono (by omega)) T.b_Web_grow .nil passL)))
        pss_nil)))
  (pss_one (ps_ret (pe_call (ok_l_is_tree T) (hr.mono (by omega)) rfl T.g_l_is_tree T.k_l_is_tree T.b_l_is_tree .nil pass0 (pa_cons (pe_meth0 (pv 0) T.cl_Kept T.m_Kept_tree (ok_Kept_tree T) (hr.mono (by omega)) T.b_Kept_tree .nil passL) (pa_cons (pe_dgetJ (by exact hu) (pv 1) pe_str (fun _ _ => rfl)) (pa_cons (pe_dgetJ (by exact hu) (pv 1) pe_str (fun _ _ => rfl)) pa_nil))))))))), ?_⟩
    refine seq_by (fun σ1 H1 => ∃ p' l' ds' rows', σ1 = [some (.ref k), some (.ref ow), some (.ref p')] ∧ Ex H H1 ∧ WebAt A.c_Web H1 p' l' ds' rows' ∧ H l' = none ∧ (∀ d ∈ ds', H d = none) ∧ Good rows' ∧ Same rows rows') (fun N hN => ?_) (fun s1 H1 m => ?_)
    · simp [L2.start, and_assoc, hk]
      exact ⟨k, wp, l, ds, rows, rfl, Z.kept, fun p' l' ds' rows' H1 e1 W' np nl nds G' S => hN _ _ ⟨p', l', ds', rows', rfl, e1, W', nl, nds, G', S⟩⟩
    obtain ⟨p', l', ds', rows', rfl, e1, W', nl, nds, G', Sm⟩ := m
    have R' := Z.rel.same Sm
    have hw1 := e1 _ _ Z.own
    have hq1 := Z.ls.up e1
    obtain ⟨⟨dw, w1⟩, w2, w3, w4, w5⟩ := id W'
    refine seq_by (fun σ1 H2 => σ1 = [some (.ref k), some (.ref ow), some (.ref p')] ∧ Ex H1 H2) (fun N hN => ?_) (fun s1 H2 m => ?_)
    · simp [and_assoc, w1, T.cl_Web, T.isa_Web, spMany, web_ex W', hw1, own_many, own_ties, Sm.ln]
      refine ⟨p', l', ds', rows', rfl, W', by rw [Sm.ln]; exact few, fun ts y H2 n2 e2 h2 hts => ?_⟩
      have hy : LsP H2 y (tiesL rows') := ⟨ts, h2, hts⟩
      have hw2 := e2 _ _ hw1
      simp [and_assoc, hw2, own_ties]
      refine ⟨prs, hq1.up e2, fun qs D H3 hp hs nD e3 hD => ⟨_, hy.up e3, qs, hD, ?_⟩⟩
      rw [sorted_ties G' R' hp hs]
      exact .inl ⟨rfl, hN _ _ ⟨rfl, e2.trans e3⟩⟩
    obtain ⟨rfl, e2⟩ := m
    have e02 := e1.trans e2
    have hw2 := e02 _ _ Z.own
    obtain ⟨us, hu1, hu2⟩ := Z.ls.up e02
    have w12 := e2 _ _ w1
    have W2 := W'.up e2
    refine seq_by (fun σ1 H3 => σ1 = [some (.ref k), some (.ref ow), some (.ref p')] ∧ Ex H H3) (fun N hN => ?_) (fun s1 H3 m => ?_)
    · simp [and_assoc, hw2, own_ties, own_many]
      intro p0 H3 n0 e3 h3
      have e03 := e02.trans e3
      have hw3 := e3 _ _ hw2
      have w13 := e3 _ _ w12
      have hu13 := e3 _ _ hu1
      have hu23 := hu2.up e3
      refine ⟨prs, ⟨us, hu13, hu23⟩, [], ⟨[], h3, TupsAt.nil _⟩, ?_⟩
      cases prs with
      | nil =>
        refine .inl ⟨rfl, _, hw3, _, own_many _ _, ?_⟩
        rw [j_rI0]
        have sl := Sm.ln
        by_cases c : (rows.length : Int) < 30
        · exact .inr ⟨by simp [c], _, _, w13, wf_grow _, p', l', ds', rows', rfl, W2.up e3, by omega, fun z => (by omega), fun z d H4 nd W4 b4 => hN _ _ ⟨rfl, ex_but e03 b4 (by simpa using nl)⟩⟩
        · exact .inl ⟨by simp [c], hN _ _ ⟨rfl, e03⟩⟩
      | cons pr prs' =>
        cases us with
        | nil => exact absurd hu23.1 (by simp)
        | cons u0 us' =>
          have htup := (TupsAt.cons.mp hu23).1
          obtain ⟨i, j, pe, ij, t⟩ := (R'.ti pr).mp List.mem_cons_self
          subst pe
          have lt := G'.lt t
          have ok2 : okTwo rows' (.int (j : Int)) (.int (i : Int)) = true := by
            unfold okTwo
            rw [okPt_of (by omega) (by simp; omega), okPt_of (by omega) (by simp; omega)]
            simp; omega
          refine .inr ⟨by simp, _, _, w13, wf_take _, _, hw3, _, own_ties _ _, ?_⟩
          rw [j_ixL]
          refine ⟨_, .ref u0, hu13, by omega, rfl, ?_⟩
          rw [j_ixT]
          refine ⟨_, _, htup, by omega, rfl, _, hw3, _, own_ties _ _, ?_⟩
          rw [j_ixL]
          refine ⟨_, .ref u0, hu13, by omega, rfl, ?_⟩
          rw [j_ixT]
          refine ⟨_, _, htup, by omega, rfl, p', l', ds', rows', _, _, rfl, W2.up e3, .int _, .int _, G'.sy, fun z => (by rw [ok2] at z; cases z), fun _ z => ?_, fun _ _ H4 W4 b4 => hN _ _ ⟨rfl, ex_but e03 b4 nds⟩⟩
          have tt : tied rows' (j : Int) (i : Int) = true := (tied_iff rows' j i).mpr (G'.symm t)
          have z' : tied rows' (j : Int) (i : Int) = false := z
          rw [tt] at z'
          cases z'
    obtain ⟨rfl, e3⟩ := m
    simp [and_assoc, e3 _ _ hk, e3 _ _ Z.own]
    refine ⟨k, wp, l, ds, rows, rfl, Z.kept.up e3, Z.no, fun t TW v H4 e4 hv => ?_⟩
    simp [and_assoc, (e3.trans e4) _ _ Z.own, own_many, own_ties]
    exact ⟨v, t, q, rows, rows.length, prs, rfl, hv, G, TW, Z.rel, Z.ls.up (e3.trans e4), fun H5 e5 => fin _ (e3.trans (e4.trans e5))⟩
end
end Jk

namespace Jk
open PySem L2 Evl

/-! ## a size that is none -/
def spSizeRef : Sp := fun vs H Q _ => ∃ x, vs = [x] ∧ Thing H x ∧ inR x 1 30 = false ∧ ∀ H', Ex H H' → Q (.bl true) H'
/-! ## data stays -/
theorem sqt_up {K : PySem.W.Frag} {H H' : Hp} {a : Addr} {xs : List V} (h : SqT K H a xs) (e : Ex H H') : SqT K H' a xs := by
  rcases h with (h | ⟨o, h⟩) | h
  · exact .inl (.inl (e _ _ h))
  · exact .inl (.inr ⟨o, e _ _ h⟩)
  · exact .inr h
mutual
theorem dp_up {K : PySem.W.Frag} {H H' : Hp} (e : Ex H H') : ∀ (d : PyData) (v : V), Dp K H v d → Dp K H' v d
  | .none, _, h => by cases h; exact .non
  | .bool _, _, h => by cases h; exact .bl _
  | .int _, _, h => by cases h; exact .int _
  | .str _, _, h => by cases h; exact .str _
  | .list ds, _, h => by
    cases h with
    | lst h1 h2 => exact .lst (sql_up h1 e) (dps_up e ds _ h2)
  | .tuple ds, _, h => by
    cases h with
    | tup h1 h2 => exact .tup (sqt_up h1 e) (dps_up e ds _ h2)
  | .dict _, _, h => by cases h
theorem dps_up {K : PySem.W.Frag} {H H' : Hp} (e : Ex H H') : ∀ (ds : List PyData) (vs : List V), DpAll K H vs ds → DpAll K H' vs ds
  | [], _, h => by cases h; exact .nil
  | d :: ds, _, h => by
    cases h with
    | cons h1 h2 => exact .cons (dp_up e d _ h1) (dps_up e ds _ h2)
end
/-! ## odd things -/
structure GoodX (K : PySem.W.Frag) (H : Hp) (x : V) : Prop where
  l : Lst1 H x
  r : ∃ d, RepX K H x d ∧ ∀ a xs, x = .ref a → H a = some (.lst xs) → ∃ ds w p, d = .list ds ∧ DqAll K H xs ds ∧ RqL ds w p ∧ w ≤ 2 ^ 18 ∧ p ≤ 50
structure OddV (K : PySem.W.Frag) (H : Hp) (x : V) : Prop where
  g : GoodX K H x
  q : ∃ d, Dq K H x d ∧ Rq d 60 2
theorem lst1_flat {H : Hp} {x : V} (t : Thing H x) (h : ∀ a xs, x = .ref a → H a ≠ some (.lst xs)) : Lst1 H x := ⟨t, fun a xs e g => absurd g (h a xs e)⟩
theorem odd_flat {K : PySem.W.Frag} {H : Hp} {x : V} {d : PyData} {w p : Nat} (t : Thing H x) (h : ∀ a xs, x = .ref a → H a ≠ some (.lst xs)) (hd : Dp K H x d) (r : Rp d w p) (hw : w ≤ 60) (hp : p ≤ 2) : OddV K H x :=
  ⟨⟨lst1_flat t h, d, .dat hd r (by omega) (by omega), fun a xs e g => absurd g (h a xs e)⟩, d, .inl ⟨hd, r.nod⟩, (r.q).mono hw hp⟩
theorem dq_up {K : PySem.W.Frag} {H H' : Hp} {x : V} {d : PyData} (h : Dq K H x d) (e : Ex H H') : Dq K H' x d := by
  rcases h with ⟨h, n⟩ | ⟨a, ps, rfl, h, rfl⟩
  · exact .inl ⟨dp_up e _ _ h, n⟩
  · exact .inr ⟨a, ps, rfl, e _ _ h, rfl⟩
theorem dqs_up {K : PySem.W.Frag} {H H' : Hp} (e : Ex H H') : ∀ {xs : List V} {ds : List PyData}, DqAll K H xs ds → DqAll K H' xs ds
  | _, _, .nil => .nil
  | _, _, .cons h t => .cons (dq_up h e) (dqs_up e t)
theorem repX_up {K : PySem.W.Frag} {H H' : Hp} {x : V} {d : PyData} (h : RepX K H x d) (e : Ex H H') : RepX K H' x d := by
  cases h with
  | dat h1 h2 h3 h4 => exact .dat (dp_up e _ _ h1) h2 h3 h4
  | dic h1 h2 h3 => exact .dic (e _ _ h1) h2 h3
  | lst h1 h2 h3 h4 h5 => exact .lst (e _ _ h1) (dqs_up e h2) h3 h4 h5
theorem GoodX.up {K : PySem.W.Frag} {H H' : Hp} {x : V} (h : GoodX K H x) (e : Ex H H') : GoodX K H' x := ⟨h.l.up e, let ⟨d, r, s⟩ := h.r; ⟨d, repX_up r e, fun a xs hx ha => let ⟨ds, w, p, z1, z2, z3⟩ := s a xs hx (thing_same h.l.th e hx ha); ⟨ds, w, p, z1, dqs_up e z2, z3⟩⟩⟩
theorem OddV.up {K : PySem.W.Frag} {H H' : Hp} {x : V} (h : OddV K H x) (e : Ex H H') : OddV K H' x := ⟨h.g.up e, let ⟨d, r, s⟩ := h.q; ⟨d, dq_up r e, s⟩⟩
theorem odd_int {K : PySem.W.Frag} {H : Hp} {i : Int} (h : i.natAbs < 10 ^ 10) : OddV K H (.int i) := odd_flat (.int i) (fun _ _ e => by cases e) (.int i) (Rp.intW h) (by omega) (by omega)
theorem dqs_of {K : PySem.W.Frag} {H : Hp} : ∀ {xs : List V}, (∀ x ∈ xs, OddV K H x) → ∃ ds, DqAll K H xs ds ∧ RqL ds (61 * xs.length) 2
  | [], _ => ⟨[], .nil, RqL.nil _ _⟩
  | x :: xs, h => by
    obtain ⟨ds, h1, h2⟩ := dqs_of fun y hy => h y (List.mem_cons_of_mem _ hy)
    obtain ⟨d, g1, g2⟩ := (h x List.mem_cons_self).q
    refine ⟨d :: ds, .cons g1 h1, ?_⟩
    have := RqL.cons g2 h2
    rw [List.length_cons]
    exact ⟨this.shw, this.lsh, this.dep, by have := this.wgt; omega⟩
theorem good_lst {K : PySem.W.Frag} {H : Hp} {a : Addr} {xs : List V} (h : H a = some (.lst xs)) (ln : xs.length ≤ 100) (o : ∀ x ∈ xs, OddV K H x) : GoodX K H (.ref a) := by
  obtain ⟨ds, h1, h2⟩ := dqs_of o
  refine ⟨⟨.lst h, fun b ys e g => ?_⟩, _, .lst h h1 h2 (by omega) (by omega), fun b ys e g => ?_⟩
  rotate_left
  · cases e
    rw [h] at g
    cases g
    exact ⟨_, _, _, rfl, h1, h2, by omega, by omega⟩
  cases e
  rw [h] at g
  cases g
  exact ⟨ln, fun y hy => (o y hy).g.l.th⟩
def spDeed (K : PySem.W.Frag) : Sp := fun vs H Q _ => ∃ (ow q : Addr) (n : Nat) (prs : List (Int × Int)) (c m : Int), vs = [.ref ow, .int c, .int m] ∧ H ow = some (.dK (ownK n q)) ∧ LsP H q prs ∧ WebPrs n prs ∧ prs.length ≤ 900 ∧ 1 ≤ n ∧ n ≤ 30 ∧ 0 ≤ c ∧ (0 ≤ m ∧ m < 1000000000) ∧
  ∀ wd x y r H', H r = none → Ex H H' → H' r = some (.tup [.str wd, x, y]) → DeedOk H' wd x y → GoodX K H' x → Q (.ref r) H'
section
variable {P : Program} {w : World} {K : PySem.W.Frag} {mg : Str → Option Value} {base : Heap} {A : Adr}
theorem ok_l_size_refused (T : Txt K mg A) : FnOk P w K mg base CX0 6 A.a_l_size_refused A.d_l_size_refused ["_law_thing"] spSizeRef := by
  refine T.F_l_size_refused.ok sc_l_size_refused (fun vs H Q E h => ?_) (fun cdv C outer s H vs Q E hr h => ?_)
  · obtain ⟨x, rfl, _⟩ := h
    rfl
  · obtain ⟨x, rfl, th, ir, k⟩ := h
    refine ⟨_, (pss_cons (ps_set (i := 1) sc_l_size_refused.nd rfl (Or.inl rfl) pe_non)
  (pss_cons (ps_try_keep (i := 2) rfl rfl rfl rfl sc_l_size_refused.nd rfl rfl ⟨rfl, by decide, .inl T.gJoinError⟩ takes0 (fun W pn xe tk _ => by exact (pss_one (ps_expr (pe_makeJ T.mk_Kept (ok_Kept_init T) (hr.mono (by omega)) rfl T.gKept T.b_Kept_init (fun σ => passAt tk σ) (pa_cons (pv 0) pa_nil))))) (fun a oe cls d pn hz hf => by exact (pss_one (ps_set (i := 1) sc_l_size_refused.nd rfl (Or.inl rfl) (pv 2)))))
  (pss_one (ps_ret (pe_and (pe_cmpR op_notN (pv 1) pe_non (nomark _)) (pe_one (pe_cmpR op_eq (pe_call (ok_l_kind T) (hr.mono (by omega)) rfl T.g_l_kind T.k_l_kind T.b_l_kind .nil pass0 (pa_cons (pv 1) pa_nil)) pe_str (nomark _)))))))), ?_⟩
    refine seq_by (fun σ1 H1 => σ1 = [some x, some .non, none] ∧ H = H1) (fun N hN => ?_) (fun s1 H1 m => ?_)
    · simp [L2.start]
      exact hN _ _ ⟨rfl, rfl⟩
    obtain ⟨rfl, rfl⟩ := m
    refine seq_by (fun σ1 H1 => ∃ a, σ1 = [some x, some (.ref a), none] ∧ Ex H H1 ∧ H1 a = some (ExK (.ref A.c_BadSize) none a)) (fun N hN => ?_) (fun s1 H1 m => ?_)
    · simp [and_assoc]
      intro p dx np ndx ne
      have eX : Ex H (upd (upd H dx (.own p)) p (.ins A.c_Kept dx [])) := fun b o e => by
        rw [upd_ne (ne_of_none e np), upd_ne (ne_of_none e ndx)]; exact e
      refine ⟨p, dx, x, rfl, upd_same, th.up eX, fun _ H' e' => ⟨true, exmJ T (show (A.c_BadSize, ("size" : Str)) ∈ kinds A by simp [kinds]), fun _ a ha => ?_, fun z => nomatch z⟩, fun n hx h1 h2 => ?_⟩
      · simp
        intro na
        exact hN _ _ ⟨a, rfl, (eX.trans e').trans (Ex.new na), upd_same⟩
      · subst hx
        have := of_decide_eq_false (show decide ((1 : Int) ≤ n ∧ (n : Int) ≤ 30) = false from ir)
        omega
    obtain ⟨a, rfl, e1, h1⟩ := m
    simp [and_assoc]
    refine ⟨a, A.c_BadSize, "size", rfl, .inl h1, by simp [kinds], fun H2 e2 => ?_⟩
    change rEq (.str "size") (.str "size") H2 _
    rw [j_eq_ss, decide_eq_true rfl]
    exact k _ (e1.trans e2)
end
end Jk

namespace Jk
open PySem L2 Evl

theorem ifS_int {w1 w2 : Int} {i : Nat} {t u : TS} {D : Ends} {σ : L2.St} {H : Hp} (h : σ[i]? = some (some (.int w1))) (y : w1 = w2 → t D σ H) (n : w1 ≠ w2 → u D σ H) : tIfS (tTest (tOp rEq (tVar i) (tC (.int w2)))) t u D σ H := by
  by_cases c : w1 = w2
  · simp [h, c]
    exact y c
  · simp [h, c]
    exact n c
section
variable {P : Program} {w : World} {K : PySem.W.Frag} {mg : Str → Option Value} {base : Heap} {A : Adr}
theorem ok_l_deed (T : Txt K mg A) : FnOk P w K mg base CX0 2 A.a_l_deed A.d_l_deed ["_law_own", "_law_cell", "_law_more"] (spDeed K) := by
  refine T.F_l_deed.ok sc_l_deed (fun vs H Q E h => ?_) (fun cdv C outer s H vs Q E hr h => ?_)
  · obtain ⟨ow, q, n, prs, c, m, rfl, _⟩ := h
    rfl
  · obtain ⟨ow, q, n, prs, c, m, rfl, hw, hq, wp, pl, n1, n30, c0, ⟨m0, m1⟩, k⟩ := h
    have hu := hu_of hr
    refine ⟨_, (pss_cons (ps_set (i := 3) sc_l_deed.nd rfl (Or.inl rfl) (pe_op op_mod (pv 1) (pe_dgetJ (by exact hu) (pv 0) pe_str (fun _ _ => rfl))))
  (pss_cons (ps_set (i := 4) sc_l_deed.nd rfl (Or.inl rfl) (pe_op op_mod (pe_op op_fdiv (pv 1) pe_int) (pe_dgetJ (by exact hu) (pv 0) pe_str (fun _ _ => rfl))))
  (pss_cons (ps_set (i := 5) sc_l_deed.nd rfl (Or.inl rfl) (pe_ix ix_listJ (pe_lstJ (pa_cons pe_non (pa_cons pe_bl (pa_cons pe_str (pa_cons (pe_lstJ (pa_cons pe_int pa_nil)) (pa_cons pe_dictJ (pa_cons (pe_un un_neg pe_int) (pa_cons (pe_dgetJ (by exact hu) (pv 0) pe_str (fun _ _ => rfl)) (pa_cons (pe_tupJ (pa_cons pe_int pa_nil)) (pa_cons pe_bl (pa_cons (pe_op op_add (pe_dgetJ (by exact hu) (pv 0) pe_str (fun _ _ => rfl)) (pv 2)) pa_nil))))))))))) (pe_op op_mod (pv 2) pe_int) (fun _ _ => rfl)))
  (pss_cons (ps_set (i := 6) sc_l_deed.nd rfl (Or.inl rfl) (pe_op op_mod (pe_op op_fdiv (pv 1) pe_int) pe_int))
  (pss_cons (ps_if (pt_cmpR op_lt (pv 6) pe_int (nomark _))
    (pss_cons (ps_set (i := 7) sc_l_deed.nd rfl (Or.inl rfl) (pe_ix ix_listJ (pe_lstJ (pa_cons (pe_tupJ (pa_cons (pv 3) (pa_cons (pv 4) pa_nil))) (pa_cons (pe_tupJ (pa_cons (pv 3) (pa_cons (pv 4) pa_nil))) (pa_cons (pe_tupJ (pa_cons (pv 3) (pa_cons (pv 4) pa_nil))) (pa_cons (pe_tupJ (pa_cons (pv 5) (pa_cons (pv 4) pa_nil))) (pa_cons (pe_tupJ (pa_cons (pv 3) (pa_cons (pv 5) pa_nil))) pa_nil)))))) (pe_op op_mod (pe_op op_fdiv (pv 2) pe_int) pe_int) (fun _ _ => rfl)))
      (pss_one (ps_ret (pe_tupJ (pa_cons (pe_ix ix_listJ (pe_lstJ (pa_cons pe_str (pa_cons pe_str (pa_cons pe_str pa_nil)))) (pv 6) (fun _ _ => rfl)) (pa_cons (pe_ix ix_tupJ (pv 7) pe_int (fun _ _ => rfl)) (pa_cons (pe_ix ix_tupJ (pv 7) pe_int (fun _ _ => rfl)) pa_nil)))))))
    pss_nil)
  (pss_cons (ps_set (i := 8) sc_l_deed.nd rfl (Or.inl rfl) (pe_ix ix_listJ (pe_call (ok_l_near T) (hr.mono (by omega)) rfl T.g_l_near T.k_l_near T.b_l_near .nil pass0 (pa_cons (pe_dgetJ (by exact hu) (pv 0) pe_str (fun _ _ => rfl)) (pa_cons (pe_dgetJ (by exact hu) (pv 0) pe_str (fun _ _ => rfl)) pa_nil))) (pv 3) (fun _ _ => rfl)))
  (pss_cons (ps_set (i := 9) sc_l_deed.nd rfl (Or.inl rfl) (pe_op op_catJ (pv 8) (pe_op op_repJ (pe_lstJ (pa_cons (pv 3) pa_nil)) (pe_op op_mod (pe_op op_fdiv (pv 2) pe_int) pe_int))))
  (pss_cons (ps_if (pt_cmpR op_eq (pv 6) pe_int (nomark _))
    (pss_one (ps_setLc (i := 9) (own := [("_law_point", 10)]) rfl sc_l_deed.nd rfl rfl (sw_true rfl rfl rfl (by decide +kernel)) (pi_range1 rfl T.range (pa_cons (pe_dgetJ (by exact hu) (pv 0) pe_str (fun _ _ => rfl)) pa_nil)) (blkOk_by (own := [("_law_point", 10)]) (N := ["_law_own", "_law_cell", "_law_more", "_law_one", "_law_other", "_law_odd", "_law_way", "_law_pair", "_law_near_here", "_law_points_here", "_law_point"]) (sc := defScope s_l_deed) (by decide +kernel)) (fun _ _ _ _ _ => by exact (pg_name (i := 10) sc_l_deed.nd rfl (Or.inl rfl))) (fun _ _ _ _ _ => by exact (pts_one (pt_cmpR op_eq (pe_op op_mod (pe_op op_fdiv (pe_op op_fdiv (pv 2) pe_int) (pe_op op_add pe_int (pv 10))) pe_int) pe_int (nomark _)))) (fun _ _ _ _ _ => by exact (pv 10))))
    pss_nil)
  (pss_cons (ps_if (pt_cmpR op_eq (pv 6) pe_int (nomark _))
    (pss_one (ps_set (i := 9) sc_l_deed.nd rfl (Or.inl rfl) (pe_ix ix_listJ (pe_lstJ (pa_cons (pe_op op_catJ (pv 9) (pe_lstJ (pa_cons (pv 5) pa_nil))) (pa_cons (pe_op op_catJ (pe_op op_catJ (pv 9) (pe_slice sl_lstJ (pv 9) po_none (po_some pe_int))) (pe_op op_repJ (pe_lstJ (pa_cons (pv 3) pa_nil)) pe_int)) (pa_cons (pv 5) (pa_cons (pe_lstJ (pa_cons (pv 5) pa_nil)) pa_nil))))) (pe_op op_mod (pe_op op_fdiv (pv 2) pe_int) pe_int) (fun _ _ => rfl))))
    pss_nil)
  (pss_one (ps_ret (pe_tupJ (pa_cons pe_str (pa_cons (pv 9) (pa_cons pe_int pa_nil))))))))))))))), ?_⟩
    have o0 := Int.emod_nonneg c (show (n : Int) ≠ 0 by omega)
    have o1 := Int.emod_lt_of_pos c (show (0 : Int) < n by omega)
    have p0 := Int.emod_nonneg (c / 32) (show (n : Int) ≠ 0 by omega)
    have p1 := Int.emod_lt_of_pos (c / 32) (show (0 : Int) < n by omega)
    refine seq_by (fun σ1 H1 => H = H1 ∧ σ1 = [some (.ref ow), some (.int c), some (.int m), some (.int (c % n)), none, none, none, none, none, none, none]) (fun N hN => ?_) (fun s1 H1 mm => ?_)
    · simp [L2.start, and_assoc, hw, own_many]
      exact ⟨by omega, hN _ _ ⟨rfl, rfl⟩⟩
    obtain ⟨rfl, rfl⟩ := mm
    generalize c % (n : Int) = one at *
    refine seq_by (fun σ1 H1 => H = H1 ∧ σ1 = [some (.ref ow), some (.int c), some (.int m), some (.int one), some (.int (c / 32 % n)), none, none, none, none, none, none]) (fun N hN => ?_) (fun s1 H1 mm => ?_)
    · simp [and_assoc, hw, own_many, CDiv]
      exact ⟨by omega, hN _ _ ⟨rfl, rfl⟩⟩
    obtain ⟨rfl, rfl⟩ := mm
    generalize c / 32 % (n : Int) = other at *
    refine seq_by (fun σ1 H1 => ∃ od, Ex H H1 ∧ OddV K H1 od ∧ σ1 = [some (.ref ow), some (.int c), some (.int m), some (.int one), some (.int other), some od, none, none, none, none, none]) (fun N hN => ?_) (fun s1 H1 mm => ?_)
    · simp [and_assoc]
      refine fun pa H2 na e2 ha pb H3 nb e3 hb => ⟨_, (e2.trans e3) _ _ hw, _, own_many n q, fun pc H4 nc e4 hc => ⟨_, ((e2.trans e3).trans e4) _ _ hw, _, own_many n q, ?_⟩⟩
      rw [j_rI0]
      intro pl H5 nl e5 hl
      have ha5 := (e3.trans (e4.trans e5)) _ _ ha
      have hb5 := (e4.trans e5) _ _ hb
      have hc5 := e5 _ _ hc
      have h10 : Rp (.int 0) 10 0 := Rp.int (by omega)
      obtain ⟨od, g, ho⟩ : ∃ od, [V.non, V.bl true, V.str (Str.ofString "0"), V.ref pa, V.ref pb, V.int (-1), V.int (n : Int), V.ref pc, V.bl false, V.int ((n : Int) + m)][(m % 10).toNat]? = some od ∧ OddV K H5 od := by
        have cs : m % 10 = 0 ∨ m % 10 = 1 ∨ m % 10 = 2 ∨ m % 10 = 3 ∨ m % 10 = 4 ∨ m % 10 = 5 ∨ m % 10 = 6 ∨ m % 10 = 7 ∨ m % 10 = 8 ∨ m % 10 = 9 := by omega
        rcases cs with z | z | z | z | z | z | z | z | z | z <;> rw [z]
        · exact ⟨.non, rfl, odd_flat .non (fun _ _ e => by cases e) .non Rp.none (by omega) (by omega)⟩
        · exact ⟨.bl true, rfl, odd_flat (.bl _) (fun _ _ e => by cases e) (.bl _) (Rp.bool _) (by omega) (by omega)⟩
        · exact ⟨.str "0", rfl, odd_flat (.str _) (fun _ _ e => by cases e) (.str _) Rp.zero (by omega) (by omega)⟩
        · exact ⟨.ref pa, rfl, good_lst ha5 (by simp) (fun x hx => by simp at hx; subst hx; exact odd_int (by decide)), .list [.int 0], .inl ⟨.lst (.inl (.inl ha5)) (.cons (.int 0) .nil), rfl⟩, ((RpL.cons h10 (RpL.nil 0 0)).list).q.mono (by omega) (by omega)⟩
        · exact ⟨.ref pb, rfl, ⟨lst1_flat (.dK hb5) (fun a xs e g => by cases e; rw [hb5] at g; cases g), ddI [], .dic (ps := []) hb5 (Rq.dict (ps := []) (fun p hp => by cases hp)) (by decide), fun a xs e g => by cases e; rw [hb5] at g; cases g⟩, ddI [], .inr ⟨pb, [], rfl, hb5, rfl⟩, (Rq.dict (ps := []) (fun p hp => by cases hp)).mono (by decide) (by omega)⟩
        · exact ⟨.int (-1), rfl, odd_int (by decide)⟩
        · exact ⟨.int n, rfl, odd_int (by omega)⟩
        · exact ⟨.ref pc, rfl, odd_flat (.tup hc5) (fun a xs e g => by cases e; rw [hc5] at g; cases g) (.tup (.inl (.inl hc5)) (.cons (.int 0) .nil)) ((RpL.cons h10 (RpL.nil 0 0)).tuple) (by omega) (by omega)⟩
        · exact ⟨.bl false, rfl, odd_flat (.bl _) (fun _ _ e => by cases e) (.bl _) (Rp.bool _) (by omega) (by omega)⟩
        · exact ⟨.int (n + m), rfl, odd_int (by omega)⟩
      exact ⟨_, hl, by omega, od, g, hN _ _ ⟨od, e2.trans (e3.trans (e4.trans e5)), ho, rfl⟩⟩
    obtain ⟨od, e1, hod, rfl⟩ := mm
    have w0 : 0 ≤ c / 1024 % 8 ∧ c / 1024 % 8 < 8 := by omega
    refine seq_by (fun σ1 H2 => H1 = H2 ∧ σ1 = [some (.ref ow), some (.int c), some (.int m), some (.int one), some (.int other), some od, some (.int (c / 1024 % 8)), none, none, none, none]) (fun N hN => ?_) (fun s1 H2 mm => ?_)
    · simp [and_assoc, CDiv]
      exact hN _ _ ⟨rfl, rfl⟩
    obtain ⟨rfl, rfl⟩ := mm
    generalize c / 1024 % 8 = way at *
    have hw1 := e1 _ _ hw
    have hq1 := hq.up e1
    refine seq_by (fun σ1 H2 => H1 = H2 ∧ σ1 = [some (.ref ow), some (.int c), some (.int m), some (.int one), some (.int other), some od, some (.int way), none, none, none, none]) (fun N hN => ?_) (fun s1 H2 mm => ?_)
    · simp [and_assoc, CDiv]
      by_cases cw : way < 3
      · refine .inr ⟨cw, fun t0 H2 n2 e2 h0 t1 H3 n3 e3 h1 t2 H4 n4 e4 h2 t3 H5 n5 e5 h3 t4 H6 n6 e6 h4 pl H7 n7 e7 h7 => ⟨_, h7, by omega, ?_⟩⟩
        have e17 := e2.trans (e3.trans (e4.trans (e5.trans (e6.trans e7))))
        have io : OddV K H7 (.int one) := odd_int (by omega)
        have ip : OddV K H7 (.int other) := odd_int (by omega)
        have hod7 := hod.up e17
        obtain ⟨tt, g, x, y, ht, hx, hy⟩ : ∃ tt, [V.ref t0, V.ref t1, V.ref t2, V.ref t3, V.ref t4][(m / 10 % 5).toNat]? = some (.ref tt) ∧ ∃ x y, H7 tt = some (.tup [x, y]) ∧ OddV K H7 x ∧ OddV K H7 y := by
          have cs : m / 10 % 5 = 0 ∨ m / 10 % 5 = 1 ∨ m / 10 % 5 = 2 ∨ m / 10 % 5 = 3 ∨ m / 10 % 5 = 4 := by omega
          rcases cs with z | z | z | z | z <;> rw [z]
          · exact ⟨t0, rfl, _, _, (e3.trans (e4.trans (e5.trans (e6.trans e7)))) _ _ h0, io, ip⟩
          · exact ⟨t1, rfl, _, _, (e4.trans (e5.trans (e6.trans e7))) _ _ h1, io, ip⟩
          · exact ⟨t2, rfl, _, _, (e5.trans (e6.trans e7)) _ _ h2, io, ip⟩
          · exact ⟨t3, rfl, _, _, (e6.trans e7) _ _ h3, hod7, ip⟩
          · exact ⟨t4, rfl, _, _, e7 _ _ h4, io, hod7⟩
        refine ⟨_, g, fun pw H8 n8 e8 h8 => ⟨_, h8, w0.1, ?_⟩⟩
        obtain ⟨wd, g2, hwd⟩ : ∃ wd, [V.str (Str.ofString "put"), V.str (Str.ofString "put"), V.str (Str.ofString "take")][way.toNat]? = some (.str wd) ∧ (wd = "put" ∨ wd = "take") := by
          have cs : way = 0 ∨ way = 1 ∨ way = 2 := by omega
          rcases cs with z | z | z <;> rw [z]
          · exact ⟨_, rfl, .inl rfl⟩
          · exact ⟨_, rfl, .inl rfl⟩
          · exact ⟨_, rfl, .inr rfl⟩
        refine ⟨_, g2, ?_⟩
        have ht8 := e8 _ _ ht
        rw [j_ixT]
        refine ⟨_, x, ht8, by omega, rfl, ?_⟩
        rw [j_ixT]
        exact ⟨_, y, ht8, by omega, rfl, fun r H9 nr e9 h9 => k wd x y r H9 (fresh_back (e1.trans (e17.trans e8)) nr) (e1.trans (e17.trans (e8.trans e9))) h9 (.inr ⟨hwd, (hx.up (e8.trans e9)).g.l.th, (hy.up (e8.trans e9)).g.l.th⟩) (hx.up (e8.trans e9)).g⟩
      · exact .inl ⟨by omega, hN _ _ ⟨rfl, rfl⟩⟩
    obtain ⟨rfl, rfl⟩ := mm
    refine seq_by (fun σ1 H2 => ∃ nl ns, Ex H1 H2 ∧ LsI H2 nl ns ∧ (∀ x ∈ ns, 0 ≤ x ∧ x < (n : Int)) ∧ ns.length ≤ 30 ∧ σ1 = [some (.ref ow), some (.int c), some (.int m), some (.int one), some (.int other), some od, some (.int way), none, some (.ref nl), none, none]) (fun N hN => ?_) (fun s1 H2 mm => ?_)
    · simp [and_assoc, hw1, own_many, own_ties]
      refine ⟨n, q, prs, rfl, by omega, hq1, wp, by omega, fun r as H2 nr nas e2 hl => ?_⟩
      dsimp only
      rw [j_ixL]
      have al : as.length = n := by rw [hl.len, nears_len]
      have gi := List.getElem?_eq_getElem (l := as) (i := one.toNat) (by omega)
      have hi := hl.all _ _ _ gi (nears_get (n := n) (by omega))
      rw [Int.toNat_of_nonneg o0] at hi
      exact ⟨_, _, hl.at', o0, by rw [List.getElem?_map, gi]; rfl, hN _ _ ⟨_, _, e2, hi, fun x hx => (nearL_in wp hx).1, by have := nearL_len wp one; omega, rfl⟩⟩
    obtain ⟨nl, ns, e2, hnl, inr, lns, rfl⟩ := mm
    have hnl' : H2 nl = some (.lst (ns.map V.int)) := hnl
    refine seq_by (fun σ1 H3 => ∃ pl ms, Ex H2 H3 ∧ LsI H3 pl ms ∧ (∀ x ∈ ms, 0 ≤ x ∧ x < (n : Int)) ∧ ms.length ≤ 31 ∧ σ1 = [some (.ref ow), some (.int c), some (.int m), some (.int one), some (.int other), some od, some (.int way), none, some (.ref nl), some (.ref pl), none]) (fun N hN => ?_) (fun s1 H3 mm => ?_)
    · simp [and_assoc, CDiv, hnl']
      refine fun p H3 n3 e3 h3 => ⟨p, _, _, rfl, rfl, h3, by omega, by omega, by simp, fun p2 H4 n4 e4 h4 => ?_⟩
      dsimp only
      rw [j_cat]
      have cs : m / 10 % 2 = 0 ∨ m / 10 % 2 = 1 := by omega
      rcases cs with z | z <;> rw [z] at h4
      · refine ⟨_, (e3.trans e4) _ _ hnl', _, h4, by simp; omega, fun p3 H5 n5 e5 h5 => hN _ _ ⟨p3, ns, e3.trans (e4.trans e5), ?_, inr, by omega, rfl⟩⟩
        unfold LsI
        rw [h5]
        simp
      · refine ⟨_, (e3.trans e4) _ _ hnl', _, h4, by simp; omega, fun p3 H5 n5 e5 h5 => hN _ _ ⟨p3, ns ++ [one], e3.trans (e4.trans e5), ?_, fun x hx => ?_, by simp; omega, rfl⟩⟩
        · unfold LsI
          rw [h5]
          simp
        · rcases List.mem_append.mp hx with z | z
          · exact inr x z
          · simp at z
            subst z
            exact ⟨o0, o1⟩
    obtain ⟨pl, ms, e3, hpl, inr2, lms, rfl⟩ := mm
    refine seq_by (fun σ1 H4 => ∃ pl ms, Ex H3 H4 ∧ LsI H4 pl ms ∧ (∀ x ∈ ms, 0 ≤ x ∧ x < (n : Int)) ∧ ms.length ≤ 31 ∧ σ1 = [some (.ref ow), some (.int c), some (.int m), some (.int one), some (.int other), some od, some (.int way), none, some (.ref nl), some (.ref pl), none]) (fun N hN => ?_) (fun s1 H4 mm => ?_)
    · have hw3 := (e2.trans e3) _ _ hw1
      refine ifS_int (w1 := way) rfl (fun _ => ?_) (fun _ => hN _ _ ⟨pl, ms, Ex.refl _, hpl, inr2, lms, rfl⟩)
      refine ⟨_, rfl, ow, _, Sum.inr "many", _, rfl, hw3, rfl, own_many n q, (n : Int), rfl, by omega, by omega, fun D hD => ?_⟩
      refine lc_walkF (g := gName 10) (te := tVar 10) (walk_rng n) (fun p => decide (m / 10 / (1 + p) % 3 = 1)) hD (fun _ _ => trivial) (by rw [rng_len]; omega) (fun i x H4 hm e => ?_) (fun x σ H Q Q' m q => m _ _ q) (fun H4 e4 h4 => hN _ _ ⟨D, _, e4, h4, fun x hx => (by have := rng_in.mp (List.mem_filter.mp hx).1; omega), by have := List.length_filter_le (fun p => decide (m / 10 / (1 + p) % 3 = 1)) (rngI n); rw [rng_len] at this; omega, rfl⟩)
      have ix := rng_in.mp (List.mem_of_getElem? hm)
      rw [j_gname]
      refine ⟨by simp [wipe], fun N' hN' => ?_, fun H3 N' q => (by simp [wipe]; exact q)⟩
      have f := hN' H4 (Ex.refl _)
      simp [wipe, CDiv, and_assoc]
      refine ⟨by omega, by omega, ?_⟩
      by_cases c2 : m / 10 / (1 + x) % 3 = 1
      · rw [decide_eq_true c2] at f
        exact .inr ⟨c2, f⟩
      · rw [decide_eq_false c2] at f
        exact .inl ⟨c2, f⟩
    obtain ⟨pl, ms, e4, hpl, inr3, lms, rfl⟩ := mm
    have hpl' : H4 pl = some (.lst (ms.map V.int)) := hpl
    refine seq_by (fun σ1 H5 => ∃ x, Ex H4 H5 ∧ GoodX K H5 x ∧ σ1 = [some (.ref ow), some (.int c), some (.int m), some (.int one), some (.int other), some od, some (.int way), none, some (.ref nl), some x, none]) (fun N hN => ?_) (fun s1 H5 mm => ?_)
    · simp [and_assoc, CDiv, hpl']
      by_cases c7 : way = 7
      · refine .inr ⟨c7, fun q1 H5 n5 e5 h5 => ⟨_, e5 _ _ hpl', _, h5, by simp; omega, fun qa H6 n6 e6 ha => ⟨_, (e5.trans e6) _ _ hpl', fun qt H7 n7 e7 ht => ⟨_, (e5.trans (e6.trans e7)) _ _ hpl', _, ht, by simp; omega, fun qb1 H8 n8 e8 hb1 qo H9 n9 e9 ho => ⟨qo, 2, _, rfl, rfl, ho, by omega, by omega, by simp, fun qr H10 n10 e10 hr => ?_⟩⟩⟩⟩⟩
        dsimp only
        rw [j_cat]
        refine ⟨_, (e9.trans e10) _ _ hb1, _, hr, by simp; omega, fun qb H11 n11 e11 hb qc H12 n12 e12 hc => ?_⟩
        refine fun qd H13 n13 e13 hd => ⟨_, hd, by omega, ?_⟩
        have e413 : Ex H4 H13 := e5.trans (e6.trans (e7.trans (e8.trans (e9.trans (e10.trans (e11.trans (e12.trans e13)))))))
        have oi : ∀ i ∈ ms, OddV K H13 (.int i) := fun i hi => by
          have := inr3 i hi
          exact odd_int (by omega)
        have o1' : OddV K H13 (.int one) := odd_int (by omega)
        have od' := hod.up (e2.trans (e3.trans (e4.trans e413)))
        have ha13 := (e7.trans (e8.trans (e9.trans (e10.trans (e11.trans (e12.trans e13)))))) _ _ ha
        have hb13 := (e12.trans e13) _ _ hb
        have hc13 := e13 _ _ hc
        obtain ⟨x, g, gx⟩ : ∃ x, [V.ref qa, V.ref qb, od, V.ref qc][(m / 10 % 4).toNat]? = some x ∧ GoodX K H13 x := by
          have cs : m / 10 % 4 = 0 ∨ m / 10 % 4 = 1 ∨ m / 10 % 4 = 2 ∨ m / 10 % 4 = 3 := by omega
          rcases cs with z | z | z | z <;> rw [z]
          · refine ⟨_, rfl, good_lst ha13 (by simp; omega) fun x hx => ?_⟩
            rcases List.mem_append.mp hx with y | y
            · obtain ⟨i, hi, rfl⟩ := List.mem_map.mp y
              exact oi i hi
            · simp at y
              subst y
              exact od'
          · refine ⟨_, rfl, good_lst hb13 (by simp; omega) fun x hx => ?_⟩
            rcases List.mem_append.mp hx with y | y
            · rcases List.mem_append.mp y with y | y
              · obtain ⟨i, hi, rfl⟩ := List.mem_map.mp y
                exact oi i hi
              · obtain ⟨i, hi, rfl⟩ := List.mem_map.mp (List.mem_of_mem_take y)
                exact oi i hi
            · have : x = .int one := by simpa using y
              subst this
              exact o1'
          · exact ⟨_, rfl, od'.g⟩
          · refine ⟨_, rfl, good_lst hc13 (by simp) fun x hx => ?_⟩
            simp at hx
            subst hx
            exact od'
        exact ⟨x, g, hN _ _ ⟨x, e413, gx, rfl⟩⟩
      · exact .inl ⟨c7, hN _ _ ⟨.ref pl, Ex.refl _, good_lst hpl' (by rw [List.length_map]; omega) (fun x hx => by
          obtain ⟨i, hi, rfl⟩ := List.mem_map.mp hx
          have := inr3 i hi
          exact odd_int (by omega)), rfl⟩⟩
    obtain ⟨x, e5, gx, rfl⟩ := mm
    simp
    exact fun r H6 nr e6 h6 => k "grow" x (.int 0) r H6 (fresh_back (e1.trans (e2.trans (e3.trans (e4.trans e5)))) nr) (e1.trans (e2.trans (e3.trans (e4.trans (e5.trans e6))))) h6 (.inl ⟨rfl, (gx.up e6).l⟩) (gx.up e6)
end
end Jk

namespace Jk
open PySem L2 Evl

/-! ## what stays while a kept web changes -/
theorem KO.no {A : Adr} {H : Hp} {m a : Addr} {o : HO} (h : KO A H m) (z : H a = some o) (n1 : ∀ C d fs, o ≠ .ins C d fs) (n2 : ∀ n q, o ≠ .dK (ownK n q)) : a ≠ m := fun e => by
  subst e
  rcases h with ⟨_, _, y⟩ | ⟨_, _, y⟩ <;> rw [z] at y
  · exact n1 _ _ _ (Option.some.inj y)
  · exact n2 _ _ (Option.some.inj y)
section
variable {A : Adr} {K : PySem.W.Frag} {H H' : Hp} {M : List Addr}
theorem sql_but (b : But M H H') (hM : ∀ m ∈ M, KO A H m) {a : Addr} {xs : List V} (h : SqL K H a xs) : SqL K H' a xs := by
  rcases h with (h | ⟨o, h⟩) | h
  · exact .inl (.inl (b.kp _ _ h fun z => (hM _ z).lst h rfl))
  · exact .inl (.inr ⟨o, b.kp _ _ h fun z => (hM _ z).no h (fun _ _ _ y => by cases y) (fun _ _ y => by cases y) rfl⟩)
  · exact .inr h
theorem sqt_but (b : But M H H') (hM : ∀ m ∈ M, KO A H m) {a : Addr} {xs : List V} (h : SqT K H a xs) : SqT K H' a xs := by
  rcases h with (h | ⟨o, h⟩) | h
  · exact .inl (.inl (b.kp _ _ h fun z => (hM _ z).tup h rfl))
  · exact .inl (.inr ⟨o, b.kp _ _ h fun z => (hM _ z).no h (fun _ _ _ y => by cases y) (fun _ _ y => by cases y) rfl⟩)
  · exact .inr h
mutual
theorem dp_but (b : But M H H') (hM : ∀ m ∈ M, KO A H m) : ∀ (d : PyData) (v : V), Dp K H v d → Dp K H' v d
  | .none, _, h => by cases h; exact .non
  | .bool _, _, h => by cases h; exact .bl _
  | .int _, _, h => by cases h; exact .int _
  | .str _, _, h => by cases h; exact .str _
  | .list ds, _, h => by
    cases h with
    | lst h1 h2 => exact .lst (sql_but b hM h1) (dps_but b hM ds _ h2)
  | .tuple ds, _, h => by
    cases h with
    | tup h1 h2 => exact .tup (sqt_but b hM h1) (dps_but b hM ds _ h2)
  | .dict _, _, h => by cases h
theorem dps_but (b : But M H H') (hM : ∀ m ∈ M, KO A H m) : ∀ (ds : List PyData) (vs : List V), DpAll K H vs ds → DpAll K H' vs ds
  | [], _, h => by cases h; exact .nil
  | d :: ds, _, h => by
    cases h with
    | cons h1 h2 => exact .cons (dp_but b hM d _ h1) (dps_but b hM ds _ h2)
end
theorem dk_but (b : But M H H') (hM : ∀ m ∈ M, KO A H m) {a : Addr} {ps : List (Int × Int)} (h : H a = some (.dK (dkI ps))) : H' a = some (.dK (dkI ps)) :=
  b.kp _ _ h fun z => (hM _ z).no h (fun _ _ _ y => by cases y) (fun n q y => by
    have e := HO.dK.inj y
    cases ps with
    | nil => cases e
    | cons p ps =>
      have e1 := congrArg List.head? e
      have e2 : (Sum.inl p.1 : Key) = Sum.inr ("many" : Str) := congrArg (fun o : Option (Key × V) => (o.getD (Sum.inl 0, .non)).1) e1
      cases e2) rfl
theorem dq_but (b : But M H H') (hM : ∀ m ∈ M, KO A H m) {x : V} {d : PyData} (h : Dq K H x d) : Dq K H' x d := by
  rcases h with ⟨h, n⟩ | ⟨a, ps, rfl, h, rfl⟩
  · exact .inl ⟨dp_but b hM _ _ h, n⟩
  · exact .inr ⟨a, ps, rfl, dk_but b hM h, rfl⟩
theorem dqs_but (b : But M H H') (hM : ∀ m ∈ M, KO A H m) : ∀ {xs : List V} {ds : List PyData}, DqAll K H xs ds → DqAll K H' xs ds
  | _, _, .nil => .nil
  | _, _, .cons h t => .cons (dq_but b hM h) (dqs_but b hM t)
theorem repX_but (b : But M H H') (hM : ∀ m ∈ M, KO A H m) {x : V} {d : PyData} (h : RepX K H x d) : RepX K H' x d := by
  cases h with
  | dat h1 h2 h3 h4 => exact .dat (dp_but b hM _ _ h1) h2 h3 h4
  | dic h1 h2 h3 => exact .dic (dk_but b hM h1) h2 h3
  | lst h1 h2 h3 h4 h5 => exact .lst (b.kp _ _ h1 fun z => (hM _ z).lst h1 rfl) (dqs_but b hM h2) h3 h4 h5
end
theorem no_row0 {n : Nat} (G : Good (List.replicate n [])) : rowF (nearF (List.replicate n [])) (tiesL (List.replicate n [])) = none := by
  cases rf : rowF (nearF (List.replicate n [])) (tiesL (List.replicate n [])) with
  | none => rfl
  | some q =>
    obtain ⟨a, b, c, d⟩ := q
    have r := (row_sound G rf).2.1
    unfold tied at r
    have r := of_decide_eq_true r
    rw [List.getD_eq_getElem?_getD, List.getElem?_replicate] at r
    split at r <;> cases r
/-- the two kept webs and the law's own dicts, in the law's lists -/
structure MainAt (A : Adr) (H0 H : Hp) (kl wl : Addr) (ks os : List Addr) : Prop where
  ex : Ex H0 H
  hk : H kl = some (.lst (ks.map V.ref))
  ho : H wl = some (.lst (os.map V.ref))
  each : ∀ (j : Nat) (k o : Addr), ks[j]? = some k → os[j]? = some o → ∃ wp l q ds rows prs, StAt A H k o wp l q ds rows prs ∧ l ≠ kl ∧ l ≠ wl ∧ q ≠ kl ∧ q ≠ wl
  ln : os.length = ks.length
  ndk : ks.Nodup
  ndo : os.Nodup
  dis : kl ≠ wl
  fk : ∀ a ∈ ks, H0 a = none
  fo : ∀ a ∈ os, H0 a = none
  fl : H0 kl = none ∧ H0 wl = none
theorem MainAt.up {A : Adr} {H0 H H' : Hp} {kl wl : Addr} {ks os : List Addr} (h : MainAt A H0 H kl wl ks os) (e : Ex H H') : MainAt A H0 H' kl wl ks os :=
  ⟨h.ex.trans e, e _ _ h.hk, e _ _ h.ho, fun j k o a b => let ⟨wp, l, q, ds, rows, prs, z, y⟩ := h.each j k o a b; ⟨wp, l, q, ds, rows, prs, z.up e, y⟩, h.ln, h.ndk, h.ndo, h.dis, h.fk, h.fo, h.fl⟩
/-- a list that is no kept web's own has changed -/
theorem KeptAt.updL {A : Adr} {H : Hp} {k wp l r : Addr} {ds : List Addr} {rows : List (List Int)} {xs ys : List V} (h : KeptAt A H k wp l ds rows) (hr : H r = some (.lst xs)) (lr : l ≠ r) : KeptAt A (L2.upd H r (.lst ys)) k wp l ds rows := by
  have nn : ∀ (a : Addr) (o : HO), H a = some o → (∀ zs, o ≠ .lst zs) → a ≠ r := fun a o z n e => by rw [e, hr] at z; exact n _ (Option.some.inj z).symm
  obtain ⟨dx, hk⟩ := h.ob
  obtain ⟨⟨dw, v1⟩, v2, v3, v4, v5⟩ := h.web
  refine ⟨⟨dx, by rw [upd_ne (nn _ _ hk fun _ z => by cases z)]; exact hk⟩, ⟨⟨dw, by rw [upd_ne (nn _ _ v1 fun _ z => by cases z)]; exact v1⟩, by rw [upd_ne lr]; exact v2, v3, v4, fun i d x a b => ?_⟩, h.good⟩
  have z := v5 i d x a b
  rw [upd_ne (nn _ _ z fun _ y => by cases y)]
  exact z
theorem StAt.upd {A : Adr} {H : Hp} {k ow wp l q r : Addr} {ds : List Addr} {rows : List (List Int)} {prs : List (Int × Int)} {xs ys : List V} (h : StAt A H k ow wp l q ds rows prs) (hr : H r = some (.lst xs)) (lr : l ≠ r) (qr : q ≠ r) : StAt A (L2.upd H r (.lst ys)) k ow wp l q ds rows prs := by
  obtain ⟨us, u1, u2⟩ := h.ls
  exact ⟨h.kept.updL hr lr, by rw [upd_ne (fun e => by have := h.own; rw [e, hr] at this; cases this)]; exact h.own, ⟨us, by rw [upd_ne qr]; exact u1, tups_upd u2 hr⟩, h.rel, h.no⟩
theorem sql_upd {K : PySem.W.Frag} {H : Hp} {a r : Addr} {xs : List V} {o : HO} (h : SqL K H a xs) (ar : a ≠ r) : SqL K (upd H r o) a xs := by
  rcases h with (h | ⟨o, h⟩) | h
  · exact .inl (.inl (by rw [upd_ne ar]; exact h))
  · exact .inl (.inr ⟨o, by rw [upd_ne ar]; exact h⟩)
  · exact .inr h
end Jk

namespace Jk
open PySem L2 Evl

theorem MainAt.done {A : Adr} {H0 H6 H8 H9 : Hp} {kl wl : Addr} {ks os : List Addr} {w : Nat} {kk oo wp l q wp' l' q' : Addr} {ds ds' : List Addr} {rows rows' : List (List Int)} {prs prs' : List (Int × Int)} (M : MainAt A H0 H6 kl wl ks os) (e : Ex H6 H8) (hkk : ks[w]? = some kk) (hoo : os[w]? = some oo) (Z : StAt A H6 kk oo wp l q ds rows prs) (z1 : l ≠ kl) (z2 : l ≠ wl) (z3 : q ≠ kl) (z4 : q ≠ wl) (ol : l' = l ∨ H8 l' = none) (oq : q' = q ∨ H8 q' = none) (b : But [kk, oo] H8 H9) (Z9 : StAt A H9 kk oo wp' l' q' ds' rows' prs') :
    MainAt A H0 H9 kl wl ks os ∧ ∀ h xs ys, H6 h = none → H8 h = some (.lst xs) → H9 h = some (.lst xs) ∧ MainAt A H0 (L2.upd H9 h (.lst ys)) kl wl ks os := by
  have Z8 := Z.up e
  have ik : kk ∈ ks := List.mem_of_getElem? hkk
  have io : oo ∈ os := List.mem_of_getElem? hoo
  have kk8 : KO A H8 kk := .inl (by obtain ⟨dx, z⟩ := Z8.kept.ob; exact ⟨dx, wp, z⟩)
  have ko8 : KO A H8 oo := .inr ⟨_, _, Z8.own⟩
  have hM : ∀ m ∈ [kk, oo], KO A H8 m := fun m hm => by
    simp at hm
    rcases hm with rfl | rfl
    · exact kk8
    · exact ko8
  have lo : ∀ {a : Addr} {xs : List V}, H8 a = some (.lst xs) → a ∉ [kk, oo] := fun z => by
    have a1 := kk8.lst z
    have a2 := ko8.lst z
    simp [a1, a2]
  have hk8 := e _ _ M.hk
  have ho8 := e _ _ M.ho
  have hk9 := b.kp _ _ hk8 (lo hk8)
  have ho9 := b.kp _ _ ho8 (lo ho8)
  have ex9 : Ex H0 H9 := ex_but (M.ex.trans e) b fun m hm => by
    simp at hm
    rcases hm with rfl | rfl
    · exact M.fk _ ik
    · exact M.fo _ io
  have each9 : ∀ (j : Nat) (k o : Addr), ks[j]? = some k → os[j]? = some o → ∃ wp l q ds rows prs, StAt A H9 k o wp l q ds rows prs ∧ l ≠ kl ∧ l ≠ wl ∧ q ≠ kl ∧ q ≠ wl ∧ ∀ (h : Addr) (u : HO), H6 h = none → H8 h = some u → l ≠ h ∧ q ≠ h := fun j k o hj ho => by
    have sm : ∀ {a h : Addr} {v u : HO}, H6 a = some v → H6 h = none → a ≠ h := fun z1 z2 z => by rw [z, z2] at z1; cases z1
    have fr : ∀ {a h : Addr} {v : HO}, H8 a = none → H8 h = some v → a ≠ h := fun z1 z2 z => by rw [z, z2] at z1; cases z1
    by_cases jw : j = w
    · subst jw
      rw [hkk] at hj
      rw [hoo] at ho
      cases hj
      cases ho
      obtain ⟨_, v2, _⟩ := Z.kept.web
      obtain ⟨us, u1, _⟩ := Z.ls
      refine ⟨wp', l', q', ds', rows', prs', Z9, ?_, ?_, ?_, ?_, fun h u n6 h8 => ⟨?_, ?_⟩⟩
      · rcases ol with rfl | z
        · exact z1
        · exact fr z hk8
      · rcases ol with rfl | z
        · exact z2
        · exact fr z ho8
      · rcases oq with rfl | z
        · exact z3
        · exact fr z hk8
      · rcases oq with rfl | z
        · exact z4
        · exact fr z ho8
      · rcases ol with rfl | z
        · exact sm (u := u) v2 n6
        · exact fr z h8
      · rcases oq with rfl | z
        · exact sm (u := u) u1 n6
        · exact fr z h8
    · obtain ⟨wp2, l2, q2, ds2, rows2, prs2, z, y1, y2, y3, y4⟩ := M.each j k o hj ho
      have z8 := z.up e
      have nk : k ≠ kk := fun t => jw ((List.getElem?_inj (lt_of_get hj) M.ndk).mp (by rw [hj, hkk, t]))
      have no : o ≠ oo := fun t => jw ((List.getElem?_inj (lt_of_get ho) M.ndo).mp (by rw [ho, hoo, t]))
      have k8 := z8.kept.ob
      have o8 := z8.own
      have nko : k ≠ oo := fun t => by
        obtain ⟨dx, y⟩ := k8
        rw [t, Z8.own] at y
        cases y
      have nok : o ≠ kk := fun t => by
        obtain ⟨dx, y⟩ := Z8.kept.ob
        rw [← t, o8] at y
        cases y
      obtain ⟨_, v2, _⟩ := z.kept.web
      obtain ⟨us, u1, _⟩ := z.ls
      exact ⟨wp2, l2, q2, ds2, rows2, prs2, z8.but b hM (by simp [nk, nko]) (by simp [no, nok]), y1, y2, y3, y4, fun h u n6 h8 => ⟨sm (u := u) v2 n6, sm (u := u) u1 n6⟩⟩
  refine ⟨⟨ex9, hk9, ho9, fun j k o hj ho => ?_, M.ln, M.ndk, M.ndo, M.dis, M.fk, M.fo, M.fl⟩, fun h xs ys n6 h8 => ?_⟩
  · obtain ⟨wp2, l2, q2, ds2, rows2, prs2, z, y1, y2, y3, y4, _⟩ := each9 j k o hj ho
    exact ⟨wp2, l2, q2, ds2, rows2, prs2, z, y1, y2, y3, y4⟩
  · have h9 := b.kp _ _ h8 (lo h8)
    refine ⟨h9, ⟨ex_upd ex9 (fresh_back M.ex n6), ?_, ?_, fun j k o hj ho => ?_, M.ln, M.ndk, M.ndo, M.dis, M.fk, M.fo, M.fl⟩⟩
    · rw [upd_ne (fun t => by have := M.hk; rw [t, n6] at this; cases this)]
      exact hk9
    · rw [upd_ne (fun t => by have := M.ho; rw [t, n6] at this; cases this)]
      exact ho9
    · obtain ⟨wp2, l2, q2, ds2, rows2, prs2, z, y1, y2, y3, y4, y5⟩ := each9 j k o hj ho
      have := y5 h _ n6 h8
      exact ⟨wp2, l2, q2, ds2, rows2, prs2, z.upd h9 this.1 this.2, y1, y2, y3, y4⟩
theorem ty_but {A : Adr} {H H' : Hp} {x : V} {k ow wp : Addr} {kv kv' : List (Key × V)} (t : Thing H x) (nl : ∀ a xs, x = .ref a → H a ≠ some (.lst xs)) (b : But [k, ow] H H') (hk : ∃ dx, H k = some (.ins A.c_Kept dx (wfK wp))) (ho : H ow = some (.dK kv)) (ho' : H' ow = some (.dK kv')) : ∃ t, tyN H' x = some t ∧ kitB t "list" = some false := by
  obtain ⟨dx, hk⟩ := hk
  cases t with
  | lst h => exact absurd h (nl _ _ rfl)
  | non => exact ⟨_, rfl, rfl⟩
  | bl b => exact ⟨_, rfl, rfl⟩
  | int i => exact ⟨_, rfl, rfl⟩
  | str t => exact ⟨_, rfl, rfl⟩
  | @tup a xs h =>
    have a1 : a ≠ k := fun z => by rw [z, hk] at h; cases h
    have a2 : a ≠ ow := fun z => by rw [z, ho] at h; cases h
    exact ⟨_, tyN_tup (b.kp _ _ h (by simp [a1, a2])), rfl⟩
  | @dK a xs h =>
    have a1 : a ≠ k := fun z => by rw [z, hk] at h; cases h
    by_cases a2 : a = ow
    · subst a2
      exact ⟨_, tyN_dK ho', rfl⟩
    · exact ⟨_, tyN_dK (b.kp _ _ h (by simp [a1, a2])), rfl⟩
def spLaw (K : PySem.W.Frag) : Sp := fun vs H Q _ => ∃ (a : Addr) (ns : List Int), vs = [.ref a] ∧ SqL K H a (ns.map V.int) ∧ ns.length ≤ 63 ∧ ∀ H', Q (.bl true) H'
section
variable {P : Program} {w : World} {K : PySem.W.Frag} {mg : Str → Option Value} {base : Heap} {A : Adr}
theorem ok_law (T : Txt K mg A) : FnG P w K mg base 68 A.a_law A.d_law ["_law_script"] (spLaw K) := by
  refine T.F_law.okG sc_law (fun vs H Q E h => ?_) (fun cdv C outer s H vs Q E hg hr h => ?_)
  · obtain ⟨a, ns, rfl, _⟩ := h
    rfl
  · obtain ⟨s0, sc, rfl, hS, hl, k⟩ := h
    have hu := hu_of hr
    refine ⟨_, (pss_cons (ps_set (i := 1) sc_law.nd rfl (Or.inl rfl) (pe_lstJ (pa_cons pe_int (pa_cons (pe_un un_neg pe_int) (pa_cons pe_int (pa_cons pe_bl (pa_cons pe_non (pa_cons pe_str (pa_cons (pe_lstJ (pa_cons pe_int pa_nil)) (pa_cons (pe_tupJ (pa_cons pe_int pa_nil)) (pa_cons pe_dictJ (pa_cons pe_bl (pa_cons (pe_op op_add pe_int (pe_call (ok_l_number T) (hr.mono (by omega)) rfl T.g_l_number T.k_l_number T.b_l_number .nil pass0 (pa_cons (pv 0) (pa_cons pe_int pa_nil)))) (pa_cons (pe_op op_pow pe_int pe_int) pa_nil))))))))))))))
  (pss_cons (ps_if (pt_not (pt_val (pe_call (ok_l_size_refused T) (hr.mono (by omega)) rfl T.g_l_size_refused T.k_l_size_refused T.b_l_size_refused .nil pass0 (pa_cons (pe_ix ix_listJ (pv 1) (pe_op op_mod (pe_call (ok_l_number T) (hr.mono (by omega)) rfl T.g_l_number T.k_l_number T.b_l_number .nil pass0 (pa_cons (pv 0) (pa_cons pe_int pa_nil))) pe_int) (fun _ _ => rfl)) pa_nil))))
    (pss_one (ps_ret pe_bl))
    pss_nil)
  (pss_cons (ps_set (i := 2) sc_law.nd rfl (Or.inr rfl) (pe_lstJ pa_nil))
  (pss_cons (ps_set (i := 3) sc_law.nd rfl (Or.inr rfl) (pe_lstJ pa_nil))
  (pss_cons (ps_for PassesOwn.never rfl (pi_range1 rfl T.range (pa_cons pe_int pa_nil)) (pg_name (i := 4) sc_law.nd rfl (.inl rfl))
    (pss_cons (ps_set (i := 5) sc_law.nd rfl (Or.inl rfl) (pe_call (ok_l_number T) (hr.mono (by omega)) rfl T.g_l_number T.k_l_number T.b_l_number .nil pass0 (pa_cons (pv 0) (pa_cons (pv 4) pa_nil))))
      (pss_cons (ps_set (i := 6) sc_law.nd rfl (Or.inl rfl) (pe_op op_add pe_int (pe_op op_mod (pv 5) pe_int)))
      (pss_cons (ps_if (pt_cmpR op_eq (pe_op op_mod (pe_op op_fdiv (pv 5) pe_int) pe_int) pe_int (nomark _))
        (pss_one (ps_set (i := 6) sc_law.nd rfl (Or.inl rfl) (pe_op op_add pe_int (pe_op op_mod (pe_op op_fdiv (pv 5) pe_int) pe_int))))
        pss_nil)
      (pss_cons (ps_expr (pe_bmL PySem.F.slot_list_append PySem.F.type_list_append mt_append (pv 2) (pa_cons (pe_make T.mk_Kept (ok_Kept_init T) (hr.mono (by omega)) rfl T.gKept T.b_Kept_init .nil passL (pa_cons (pv 6) pa_nil)) pa_nil)))
      (pss_one (ps_expr (pe_bmL PySem.F.slot_list_append PySem.F.type_list_append mt_append (pv 3) (pa_cons (pe_disp (pps_cons pe_str (pv 6) (pps_cons pe_str (pe_lstJ pa_nil) (pps_nil))) (by rfl) (by rfl) (fun z => by cases z) (by decide)) pa_nil)))))))))
  (pss_cons (ps_for PassesOwn.never rfl (pi_range1 rfl T.range (pa_cons (pe_op op_add pe_int (pe_callB (call_min2 rfl) (by rfl) T.min (by decide +kernel) (pa_cons (pe_callB call_len_seq (by rfl) T.len (by decide +kernel) (pa_cons (pv 0) pa_nil)) (pa_cons pe_int pa_nil)))) pa_nil)) (pg_name (i := 4) sc_law.nd rfl (.inl rfl))
    (pss_cons (ps_set (i := 7) sc_law.nd rfl (Or.inl rfl) (pe_call (ok_l_number T) (hr.mono (by omega)) rfl T.g_l_number T.k_l_number T.b_l_number .nil pass0 (pa_cons (pv 0) (pa_cons (pe_op op_add (pv 4) pe_int) pa_nil))))
      (pss_cons (ps_set (i := 8) sc_law.nd rfl (Or.inl rfl) (pe_callTy call_int1 (by rfl) T.int (by decide +kernel) (pa_cons (pe_cmpR op_eq (pe_op op_mod (pe_op op_fdiv (pv 7) pe_int) pe_int) pe_int (nomark _)) pa_nil)))
      (pss_cons (ps_set (i := 9) sc_law.nd rfl (Or.inl rfl) (pe_call (ok_l_deed T) (hr.mono (by omega)) rfl T.g_l_deed T.k_l_deed T.b_l_deed .nil pass0 (pa_cons (pe_ix ix_listJ (pv 3) (pv 8) (fun _ _ => rfl)) (pa_cons (pv 7) (pa_cons (pe_call (ok_l_number T) (hr.mono (by omega)) rfl T.g_l_number T.k_l_number T.b_l_number .nil pass0 (pa_cons (pv 0) (pa_cons (pe_op op_add (pe_op op_mul pe_int (pv 4)) pe_int) pa_nil))) pa_nil)))))
      (pss_cons (ps_set (i := 10) sc_law.nd rfl (Or.inl rfl) (pe_ifExp (pt_val (pe_callB call_isJ (by rfl) T.isinstance (by decide +kernel) (pa_cons (pe_ix ix_tupJ (pv 9) pe_int (fun _ _ => rfl)) (pa_cons (pe_bltn (v := .ty "list") (u := .type "list") (by rfl) T.list (by decide +kernel) rfl) pa_nil)))) (pe_callTy call_listJ (by rfl) T.list (by decide +kernel) (pa_cons (pe_ix ix_tupJ (pv 9) pe_int (fun _ _ => rfl)) pa_nil)) (pe_ix ix_tupJ (pv 9) pe_int (fun _ _ => rfl))))
      (pss_cons (ps_if (pt_not (pt_val (pe_call (ok_l_done T) (hr.mono (by omega)) rfl T.g_l_done T.k_l_done T.b_l_done .nil pass0 (pa_cons (pe_ix ix_listJ (pv 2) (pv 8) (fun _ _ => rfl)) (pa_cons (pe_ix ix_listJ (pv 3) (pv 8) (fun _ _ => rfl)) (pa_cons (pe_tupJ (pa_cons (pe_ix ix_tupJ (pv 9) pe_int (fun _ _ => rfl)) (pa_cons (pv 10) (pa_cons (pe_ix ix_tupJ (pv 9) pe_int (fun _ _ => rfl)) pa_nil)))) pa_nil))))))
        (pss_one (ps_ret pe_bl))
        pss_nil)
      (pss_cons (ps_if (pt_cmpR op_ne (pe_callB (call_reprX (guards_deeper hg) hr.units) (by rfl) T.repr (by decide +kernel) (pa_cons (pv 10) pa_nil)) (pe_callB (call_reprX (guards_deeper hg) hr.units) (by rfl) T.repr (by decide +kernel) (pa_cons (pe_ix ix_tupJ (pv 9) pe_int (fun _ _ => rfl)) pa_nil)) (nomark _))
        (pss_one (ps_ret pe_bl))
        pss_nil)
      (pss_cons (ps_if (pt_val (pe_callB call_isJ (by rfl) T.isinstance (by decide +kernel) (pa_cons (pv 10) (pa_cons (pe_bltn (v := .ty "list") (u := .type "list") (by rfl) T.list (by decide +kernel) rfl) pa_nil))))
        (pss_one (ps_expr (pe_bmL PySem.F.slot_list_append PySem.F.type_list_append mt_append (pv 10) (pa_cons pe_int pa_nil))))
        pss_nil)
      (pss_cons (ps_if (pt_not (pt_val (pe_callB (cr_all rfl) (by rfl) T.all (by decide +kernel) (pa_cons (pe_lc (own := [("_law_k", 4)]) rfl sc_law.nd (pi_tup (pe_tupJ (pa_cons pe_int (pa_cons pe_int pa_nil)))) (blkOk_by (own := [("_law_k", 4)]) (N := ["_law_script", "_law_odd", "_law_kepts", "_law_owns", "_law_k", "_law_number_here", "_law_many", "_law_cell", "_law_which", "_law_deed_here", "_law_handed"]) (sc := defScope s_law) (by decide +kernel)) (fun _ _ _ _ _ => by exact (pg_name (i := 4) sc_law.nd rfl (Or.inl rfl))) (fun _ _ _ _ _ => by exact pts_nil) (fun _ _ _ _ _ => by exact (pe_call (ok_l_right T) (hr.mono (by omega)) rfl T.g_l_right T.k_l_right T.b_l_right .nil pass0 (pa_cons (pe_ix ix_listJ (pv 2) (pv 4) (fun _ _ => rfl)) (pa_cons (pe_ix ix_listJ (pv 3) (pv 4) (fun _ _ => rfl)) pa_nil))))) pa_nil))))
        (pss_one (ps_ret pe_bl))
        pss_nil)
      (pss_one (ps_if (pt_cmpR op_eq (pe_dgetJ (by exact hu) (pe_ix ix_listJ (pv 3) (pv 8) (fun _ _ => rfl)) pe_str (fun _ _ => rfl)) pe_int (nomark _))
        (pss_one (ps_ret pe_bl))
        pss_nil)))))))))))
  (pss_one (ps_ret pe_bl)))))))), ?_⟩
    have hlen : ((sc.map V.int).length : Int) = sc.length := by rw [List.length_map]
    refine seq_by (fun σ1 H1 => ∃ odl xs, σ1 = [some (.ref s0), some (.ref odl), none, none, none, none, none, none, none, none, none] ∧ Ex H H1 ∧ H1 odl = some (.lst xs) ∧ xs.length = 12 ∧ ∀ x ∈ xs, Thing H1 x ∧ inR x 1 30 = false) (fun N hN => ?_) (fun s1 H1 m => ?_)
    · simp [L2.start, and_assoc]
      refine fun pa H2 na e2 ha pb H3 nb e3 hb pc H4 nc e4 hc => ⟨s0, sc, 200, rfl, sql_up hS (e2.trans (e3.trans e4)), by omega, ?_⟩
      have c0 : 0 ≤ num sc 200 := mixed_nn _ _
      generalize num sc 200 = c at c0
      dsimp only
      rw [j_rI0]
      refine ⟨⟨by omega, by omega, by decide⟩, fun pl H5 n5 e5 h5 => hN _ _ ⟨pl, _, rfl, e2.trans (e3.trans (e4.trans e5)), h5, rfl, fun x hx => ?_⟩⟩
      have ha5 := (e3.trans (e4.trans e5)) _ _ ha
      have hb5 := (e4.trans e5) _ _ hb
      have hc5 := e5 _ _ hc
      have ni : ∀ i : Int, (i < 1 ∨ 30 < i) → inR (.int i) 1 30 = false := fun i h => decide_eq_false (by omega)
      simp only [List.mem_cons, List.not_mem_nil, or_false] at hx
      rcases hx with rfl | rfl | rfl | rfl | rfl | rfl | rfl | rfl | rfl | rfl | rfl | rfl
      · exact ⟨.int _, ni _ (by omega)⟩
      · exact ⟨.int _, ni _ (by omega)⟩
      · exact ⟨.int _, ni _ (by omega)⟩
      · exact ⟨.bl _, rfl⟩
      · exact ⟨.non, rfl⟩
      · exact ⟨.str _, rfl⟩
      · exact ⟨.lst ha5, rfl⟩
      · exact ⟨.tup hb5, rfl⟩
      · exact ⟨.dK hc5, rfl⟩
      · exact ⟨.bl _, rfl⟩
      · exact ⟨.int _, ni _ (by omega)⟩
      · exact ⟨.int _, ni _ (by omega)⟩
    obtain ⟨odl, xs, rfl, e1, hxs, l12, hall⟩ := m
    refine seq_by (fun σ1 H2 => σ1 = [some (.ref s0), some (.ref odl), none, none, none, none, none, none, none, none, none] ∧ Ex H H2) (fun N hN => ?_) (fun s1 H2 m => ?_)
    · simp [and_assoc]
      refine ⟨s0, sc, 201, rfl, sql_up hS e1, by omega, ?_⟩
      generalize num sc 201 = c
      rw [j_rI]
      have g := List.getElem?_eq_getElem (l := xs) (i := (c % 12).toNat) (by omega)
      have hx := hall _ (List.mem_of_getElem? g)
      refine ⟨by omega, ?_⟩
      rw [j_ixL]
      exact ⟨_, _, hxs, by omega, g, _, rfl, hx.1, hx.2, fun H2 e2 => .inr ⟨rfl, hN _ _ ⟨rfl, e1.trans e2⟩⟩⟩
    obtain ⟨rfl, e2⟩ := m
    refine seq_by (fun σ1 H3 => ∃ kl, σ1 = [some (.ref s0), some (.ref odl), some (.ref kl), none, none, none, none, none, none, none, none] ∧ Ex H H3 ∧ H kl = none ∧ H3 kl = some (.lst [])) (fun N hN => ?_) (fun s1 H3 m => ?_)
    · simp
      exact fun kl H3 n3 e3 h3 => hN _ _ ⟨kl, rfl, e2.trans e3, fresh_back e2 n3, h3⟩
    obtain ⟨kl, rfl, e3, nk, hkl⟩ := m
    refine seq_by (fun σ1 H4 => ∃ wl, σ1 = [some (.ref s0), some (.ref odl), some (.ref kl), some (.ref wl), none, none, none, none, none, none, none] ∧ Ex H H4 ∧ H wl = none ∧ H4 wl = some (.lst []) ∧ H4 kl = some (.lst []) ∧ kl ≠ wl) (fun N hN => ?_) (fun s1 H4 m => ?_)
    · simp
      exact fun wl H4 n4 e4 h4 => hN _ _ ⟨wl, rfl, e3.trans e4, fresh_back e3 n4, h4, e4 _ _ hkl, fun e => by rw [← e, hkl] at n4; cases n4⟩
    obtain ⟨wl, rfl, e4, nw, hwl, hkl4, kw⟩ := m
    refine seq_by (fun σ1 H5 => ∃ (b4 b5 b6 : Option V) (ks os : List Addr), σ1 = [some (.ref s0), some (.ref odl), some (.ref kl), some (.ref wl), b4, b5, b6, none, none, none, none] ∧ MainAt A H H5 kl wl ks os ∧ ks.length = 2) (fun N hN => ?_) (fun s1 H5 m => ?_)
    · refine ⟨2, rfl, by decide, by decide, for_range (n := 2) (fun i σ H' => ∃ (b4 b5 b6 : Option V) (ks os : List Addr), σ = [some (.ref s0), some (.ref odl), some (.ref kl), some (.ref wl), b4, b5, b6, none, none, none, none] ∧ MainAt A H H' kl wl ks os ∧ ks.length = i) ⟨none, none, none, [], [], rfl, ⟨e4, hkl4, hwl, fun j k o a => (by cases a), rfl, List.nodup_nil, List.nodup_nil, kw, fun a ha => (by cases ha), fun a ha => (by cases ha), nk, nw⟩, rfl⟩ (fun i σ H' hi h => ?_) (fun σ H' h => ?_)⟩
      rotate_left
      · obtain ⟨b4, b5, b6, ks, os, rfl, M, lk⟩ := h
        exact hN _ _ ⟨b4, b5, b6, ks, os, rfl, M, lk⟩
      obtain ⟨b4, b5, b6, ks, os, rfl, M, lk⟩ := h
      rw [Int.zero_add]
      refine seq_by (fun σ1 H6 => ∃ c, σ1 = [some (.ref s0), some (.ref odl), some (.ref kl), some (.ref wl), some (.int (i : Int)), some (.int c), b6, none, none, none, none] ∧ H' = H6 ∧ 0 ≤ c) (fun N hN => ?_) (fun s1 H6 m => ?_)
      · simp
        exact ⟨s0, sc, i, rfl, sql_up hS M.ex, by omega, hN _ _ ⟨_, rfl, rfl, mixed_nn _ _⟩⟩
      obtain ⟨c, rfl, rfl, c0⟩ := m
      refine seq_by (fun σ1 H6 => σ1 = [some (.ref s0), some (.ref odl), some (.ref kl), some (.ref wl), some (.int (i : Int)), some (.int c), some (.int (1 + c % 7)), none, none, none, none] ∧ H' = H6) (fun N hN => ?_) (fun s1 H6 m => ?_)
      · simp
        exact hN _ _ ⟨rfl, rfl⟩
      obtain ⟨rfl, rfl⟩ := m
      refine seq_by (fun σ1 H6 => ∃ n : Nat, σ1 = [some (.ref s0), some (.ref odl), some (.ref kl), some (.ref wl), some (.int (i : Int)), some (.int c), some (.int (n : Int)), none, none, none, none] ∧ H' = H6 ∧ 1 ≤ n ∧ n ≤ 30) (fun N hN => ?_) (fun s1 H6 m => ?_)
      · simp [CDiv]
        by_cases c8 : c / 7 % 8 = 1
        · obtain ⟨n, en⟩ : ∃ n : Nat, 28 + c / 56 % 3 = (n : Int) := ⟨(28 + c / 56 % 3).toNat, by omega⟩
          rw [en]
          exact .inr ⟨c8, hN _ _ ⟨n, rfl, rfl, by omega, by omega⟩⟩
        · obtain ⟨n, en⟩ : ∃ n : Nat, 1 + c % 7 = (n : Int) := ⟨(1 + c % 7).toNat, by omega⟩
          rw [en]
          exact .inl ⟨c8, hN _ _ ⟨n, rfl, rfl, by omega, by omega⟩⟩
      obtain ⟨n, rfl, rfl, n1, n30⟩ := m
      refine seq_by (fun σ1 H6 => ∃ (x xw xl : Addr) (xd : List Addr), σ1 = [some (.ref s0), some (.ref odl), some (.ref kl), some (.ref wl), some (.int (i : Int)), some (.int c), some (.int (n : Int)), none, none, none, none] ∧ H x = none ∧ x ∉ ks ∧ xl ≠ kl ∧ xl ≠ wl ∧ KeptAt A H6 x xw xl xd (List.replicate n []) ∧ Ex H H6 ∧ H6 kl = some (.lst ((ks ++ [x]).map V.ref)) ∧ H6 wl = some (.lst (os.map V.ref)) ∧ ∀ (j : Nat) (k o : Addr), ks[j]? = some k → os[j]? = some o → o ≠ x ∧ ∃ wp l q ds rows prs, StAt A H6 k o wp l q ds rows prs ∧ l ≠ kl ∧ l ≠ wl ∧ q ≠ kl ∧ q ≠ wl) (fun N hN => ?_) (fun s1 H6 m => ?_)
      · have hkl' := M.hk
        simp [hkl']
        intro x dx nx ndx ne
        have eX : Ex H' (upd (upd H' dx (.own x)) x (.ins A.c_Kept dx [])) := fun b o e => by
          rw [upd_ne (ne_of_none e nx), upd_ne (ne_of_none e ndx)]; exact e
        have nR : inR (.int (n : Int)) 1 30 = true := decide_eq_true (by omega)
        refine ⟨x, dx, .int n, rfl, upd_same, .int _, fun z => (by rw [nR] at z; cases z), fun n' hx' h1 h2 xw xl xd H6 nl XK b6 => ⟨rfl, ?_⟩⟩
        have nn' : n' = n := by have : (n : Int) = n' := V.int.inj hx'; omega
        subst nn'
        have e6 : Ex H' H6 := fun b o e => b6.kp b o (eX b o e) (by simpa using ne_of_none e nx)
        have nl' : H' xl = none := fresh_back eX nl
        have hk6 := e6 _ _ M.hk
        have xlk : xl ≠ kl := fun e => by rw [e, M.hk] at nl'; cases nl'
        have xlw : xl ≠ wl := fun e => by rw [e, M.ho] at nl'; cases nl'
        have xk : x ∉ ks := fun hx => by
          obtain ⟨j, hj, e⟩ := List.mem_iff_getElem.mp hx
          obtain ⟨_, _, _, _, _, _, z, _⟩ := M.each j x _ (by rw [List.getElem?_eq_getElem hj, e]) (List.getElem?_eq_getElem (by rw [M.ln]; exact hj))
          obtain ⟨dz, hz⟩ := z.kept.ob
          rw [nx] at hz
          cases hz
        refine ⟨_, hk6, by rw [List.length_map, lk]; exact lt_line (by omega), hN _ _ ⟨x, xw, xl, xd, rfl, fresh_back M.ex nx, xk, xlk, xlw, XK.updL hk6 xlk, ex_upd (M.ex.trans e6) nk, by rw [upd_same, List.map_append]; rfl, by rw [upd_ne kw.symm]; exact e6 _ _ M.ho, fun j k o hj ho => ?_⟩⟩
        obtain ⟨wp, l, q, ds, rows, prs, z, z1, z2, z3, z4⟩ := M.each j k o hj ho
        exact ⟨fun e => (by have := z.own; rw [e, nx] at this; cases this), wp, l, q, ds, rows, prs, (z.up e6).upd hk6 z1 z3, z1, z2, z3, z4⟩
      obtain ⟨x, xw, xl, xd, rfl, nx, xk, xlk, xlw, XK, e6, hk6, hw6, each6⟩ := m
      simp [hw6, tPairs]
      refine fun o no => ?_
      simp [tPairs]
      intro q H7 nq e7 h7
      have eO : Ex H6 (L2.upd H6 o (.dK [])) := Ex.new no
      have e67 := eO.trans e7
      have ho7 : H7 o = some (.dK []) := e7 _ _ upd_same
      have wo : wl ≠ o := fun e => by rw [e, no] at hw6; cases hw6
      have qn : ∀ (a : Addr) (u : HO), H6 a = some u → q ≠ a := fun a u z e => by
        have := eO _ _ z
        rw [← e, nq] at this
        cases this
      have qo : q ≠ o := fun e => by rw [e, upd_same] at nq; cases nq
      have e6n : Ex H6 (L2.upd H7 o (.dK (ownK n q))) := fun b u z => by
        rw [upd_ne (ne_of_none z no)]
        exact e67 _ _ z
      have hwn : L2.upd H7 o (.dK (ownK n q)) wl = some (.lst (os.map V.ref)) := e6n _ _ hw6
      refine ⟨ho7, ownK n q, rfl, by show 2 ≤ 15; omega, os.map V.ref, ?_⟩
      have mk : mergeK [] (ownK n q) = ownK n q := rfl
      rw [mk]
      have lo := M.ln
      refine ⟨hwn, by rw [List.length_map, lo, lk]; exact lt_line (by omega), ks ++ [x], ⟨os ++ [o], ⟨ex_upd (e6.trans e6n) nw, by rw [upd_ne kw]; exact e6n _ _ hk6, by rw [upd_same, List.map_append]; rfl, fun j k' o' hj ho => ?_, by rw [List.length_append, List.length_append, lo]; rfl, ?_, ?_, kw, fun a ha => ?_, fun a ha => ?_, nk, nw⟩⟩, by rw [List.length_append, lk]; rfl⟩
      · rcases app_get hj with ⟨l1, g⟩ | ⟨l1, rfl⟩
        · rw [List.getElem?_append_left (by omega)] at ho
          obtain ⟨_, wp, l, q2, ds, rows, prs, z, z1, z2, z3, z4⟩ := each6 j k' o' g ho
          exact ⟨wp, l, q2, ds, rows, prs, (z.up e6n).upd hwn z2 z4, z1, z2, z3, z4⟩
        · have : o' = o := by
            rw [l1, ← lo, List.getElem?_append_right (Nat.le_refl _)] at ho
            simp at ho
            exact ho.symm
          subst this
          refine ⟨xw, xl, q, xd, List.replicate n [], [], ⟨(XK.up e6n).updL hwn xlw, ?_, ⟨[], ?_, TupsAt.nil _⟩, ?_, no_row0 XK.good⟩, xlk, xlw, qn _ _ hk6, qn _ _ hw6⟩
          · rw [upd_ne (fun e => wo e.symm), upd_same, List.length_replicate]
          · rw [upd_ne (qn _ _ hw6), upd_ne qo]
            exact h7
          · rw [List.length_replicate]
            exact rel_init
      · exact List.nodup_append.mpr ⟨M.ndk, by simp, fun a ha b hb e => xk (by simp at hb; rw [← hb, ← e]; exact ha)⟩
      · refine List.nodup_append.mpr ⟨M.ndo, by simp, fun a ha b hb e => ?_⟩
        simp at hb
        subst hb e
        obtain ⟨j, hj, e⟩ := List.mem_iff_getElem.mp ha
        obtain ⟨_, _, _, _, _, _, _, z, _⟩ := each6 j _ a (List.getElem?_eq_getElem (by rw [← lo]; exact hj)) (by rw [List.getElem?_eq_getElem hj, e])
        have := z.own
        rw [no] at this
        cases this
      · rcases List.mem_append.mp ha with z | z
        · exact M.fk a z
        · simp at z
          subst z
          exact nx
      · rcases List.mem_append.mp ha with z | z
        · exact M.fo a z
        · simp at z
          subst z
          exact fresh_back e6 no
    obtain ⟨b4, b5, b6, ks, os, rfl, M, lk⟩ := m
    refine seq_by (fun _ _ => True) (fun N hN => ?_) (fun s1 H1 m => ?_)
    rotate_left
    · simp
      exact k _
    have hS5 := sql_up hS M.ex
    have hb : -2 ^ 62 ≤ (4 + (if (40 : Int) < ((sc.map V.int).length : Int) then 40 else ((sc.map V.int).length : Int))) ∧ (4 + (if (40 : Int) < ((sc.map V.int).length : Int) then 40 else ((sc.map V.int).length : Int))) < 2 ^ 62 := by split <;> omega
    refine ⟨_, rfl, s0, _, rfl, .inl hS5, _, _, rfl, _, _, rfl, rfl, _, rfl, hb.1, hb.2, for_range (fun i σ H' => ∃ (b4 b5 b6 b7 b8 b9 b10 : Option V), σ = [some (.ref s0), some (.ref odl), some (.ref kl), some (.ref wl), b4, b5, b6, b7, b8, b9, b10] ∧ MainAt A H H' kl wl ks os) ⟨b4, b5, b6, none, none, none, none, rfl, M⟩ (fun i σ H' hi h => ?_) (fun σ H' h => hN _ _ trivial)⟩
    clear M hS5 hb
    clear b4 b5 b6
    obtain ⟨b4, b5, b6, b7, b8, b9, b10, rfl, M⟩ := h
    rw [Int.zero_add]
    refine seq_by (fun σ1 H6 => ∃ c, σ1 = [some (.ref s0), some (.ref odl), some (.ref kl), some (.ref wl), some (.int (i : Int)), b5, b6, some (.int c), b8, b9, b10] ∧ H' = H6 ∧ 0 ≤ c) (fun N hN => ?_) (fun s1 H6 m => ?_)
    · simp
      exact ⟨s0, sc, (i : Int) + 2, rfl, sql_up hS M.ex, by omega, hN _ _ ⟨_, rfl, rfl, mixed_nn _ _⟩⟩
    obtain ⟨c, rfl, rfl, c0⟩ := m
    refine seq_by (fun σ1 H6 => ∃ w : Nat, σ1 = [some (.ref s0), some (.ref odl), some (.ref kl), some (.ref wl), some (.int (i : Int)), b5, b6, some (.int c), some (.int (w : Int)), b9, b10] ∧ H' = H6 ∧ w < 2) (fun N hN => ?_) (fun s1 H6 m => ?_)
    · simp [CDiv]
      by_cases cw : c / 8192 % 4 = 1
      · simp [cw]
        exact hN _ _ ⟨1, rfl, rfl, by omega⟩
      · simp [cw]
        exact hN _ _ ⟨0, rfl, rfl, by omega⟩
    obtain ⟨w, rfl, rfl, w2⟩ := m
    obtain ⟨kk, hkk⟩ : ∃ kk, ks[w]? = some kk := ⟨_, List.getElem?_eq_getElem (by omega)⟩
    obtain ⟨oo, hoo⟩ : ∃ oo, os[w]? = some oo := ⟨_, List.getElem?_eq_getElem (by have := M.ln; omega)⟩
    obtain ⟨wp, l, q, ds, rows, prs, Z, lk', lw, qk, qw⟩ := M.each w kk oo hkk hoo
    have hgo : (os.map V.ref)[w]? = some (.ref oo) := by rw [List.getElem?_map, hoo]; rfl
    have hgk : (ks.map V.ref)[w]? = some (.ref kk) := by rw [List.getElem?_map, hkk]; rfl
    have ho' := M.ho
    have hk' := M.hk
    refine seq_by (fun σ1 H6 => ∃ dd wd x y, σ1 = [some (.ref s0), some (.ref odl), some (.ref kl), some (.ref wl), some (.int (i : Int)), b5, b6, some (.int c), some (.int (w : Int)), some (.ref dd), b10] ∧ Ex H' H6 ∧ H' dd = none ∧ H6 dd = some (.tup [.str wd, x, y]) ∧ DeedOk H6 wd x y ∧ GoodX K H6 x) (fun N hN => ?_) (fun s1 H6 m => ?_)
    · simp [ho', hoo]
      refine ⟨by unfold CMul; omega, s0, sc, 2 * (i : Int) + 50, rfl, sql_up hS M.ex, by omega, ?_⟩
      have G := Z.kept.good
      refine ⟨oo, q, rows.length, prs, c, _, rfl, Z.own, Z.ls, Z.rel.web G, by have := Z.rel.few G; omega, G.one, by have := G.few; omega, c0, ⟨mixed_nn _ _, Int.lt_trans (mixed_lt _ _) (by decide)⟩, fun wd x y r H6 nr e6 hr6 ok gx => ?_⟩
      exact hN _ _ ⟨r, wd, x, y, rfl, e6, nr, hr6, ok, gx⟩
    obtain ⟨dd, wd, x, y, rfl, e6, nd, hdd, ok, gx⟩ := m
    obtain ⟨dr, hdr, hdl⟩ := gx.r
    refine seq_by (fun σ1 H7 => ∃ hd, σ1 = [some (.ref s0), some (.ref odl), some (.ref kl), some (.ref wl), some (.int (i : Int)), b5, b6, some (.int c), some (.int (w : Int)), some (.ref dd), some hd] ∧ Ex H6 H7 ∧ Lst1 H7 hd ∧ RepX K H7 hd dr ∧ ((∃ h xs, hd = .ref h ∧ H7 h = some (.lst xs) ∧ H6 h = none ∧ xs.length ≤ 100) ∨ ∀ a xs, hd = .ref a → H7 a ≠ some (.lst xs))) (fun N hN => ?_) (fun s1 H7 m => ?_)
    · simp [hdd]
      obtain ⟨a, xs, rfl, hx⟩ | ⟨t, t1, t2, nu⟩ : (∃ a xs, x = .ref a ∧ H6 a = some (.lst xs)) ∨ (∃ t, tyN H6 x = some t ∧ kitB t "list" = some false ∧ ∀ a xs, x = .ref a → H6 a ≠ some (.lst xs)) := by
        cases gx.l.th with
        | lst h => exact .inl ⟨_, _, rfl, h⟩
        | non => exact .inr ⟨_, rfl, rfl, fun a xs e => by cases e⟩
        | bl b => exact .inr ⟨_, rfl, rfl, fun a xs e => by cases e⟩
        | int i => exact .inr ⟨_, rfl, rfl, fun a xs e => by cases e⟩
        | str t => exact .inr ⟨_, rfl, rfl, fun a xs e => by cases e⟩
        | tup h => exact .inr ⟨_, tyN_tup h, rfl, fun a xs e z => by cases e; rw [h] at z; cases z⟩
        | dK h => exact .inr ⟨_, tyN_dK h, rfl, fun a xs e z => by cases e; rw [h] at z; cases z⟩
      · refine ⟨"list", tyN_lst hx, .inr ⟨rfl, a, xs, rfl, .inl hx, fun h H7 nh e7 hh => hN _ _ ⟨.ref h, rfl, e7, ?_, ?_, .inl ⟨h, xs, rfl, hh, nh, (gx.l.it a xs rfl hx).1⟩⟩⟩⟩
        · refine ⟨.lst hh, fun a' xs' e' g => ?_⟩
          cases e'
          rw [hh] at g
          cases g
          exact ⟨(gx.l.it a xs rfl hx).1, fun y hy => ((gx.l.it a xs rfl hx).2 y hy).up e7⟩
        · obtain ⟨dl, w1, p1, rfl, q1, q2, q3, q4⟩ := hdl a xs rfl hx
          exact .lst hh (dqs_up e7 q1) q2 q3 q4
      · exact ⟨t, t1, .inl ⟨t2, hN _ _ ⟨x, rfl, Ex.refl _, gx.l, hdr, .inr nu⟩⟩⟩
    obtain ⟨hd, rfl, e7, L7, r7, ol7⟩ := m
    have M7 := M.up (e6.trans e7)
    have ok7 : DeedOk H7 wd hd y := by
      rcases ok with ⟨rfl, _⟩ | ⟨z, z1, z2⟩
      · exact .inl ⟨rfl, L7⟩
      · exact .inr ⟨z, L7.th, z2.up e7⟩
    have hk7 := M7.hk
    have ho7 := M7.ho
    have hdd7 := e7 _ _ hdd
    refine seq_by (fun σ1 H9 => σ1 = [some (.ref s0), some (.ref odl), some (.ref kl), some (.ref wl), some (.int (i : Int)), b5, b6, some (.int c), some (.int (w : Int)), some (.ref dd), some hd] ∧ MainAt A H H9 kl wl ks os ∧ RepX K H9 hd dr ∧ RepX K H9 x dr ∧ H9 dd = some (.tup [.str wd, x, y]) ∧ ((∃ h xs, hd = .ref h ∧ H9 h = some (.lst xs) ∧ xs.length ≤ 100 ∧ MainAt A H (L2.upd H9 h (.lst (xs ++ [.int 0]))) kl wl ks os) ∨ ∃ t, tyN H9 hd = some t ∧ kitB t "list" = some false)) (fun N hN => ?_) (fun s1 H9 m => ?_)
    · simp [hdd7, hk7, ho7, hkk, hoo]
      refine fun p H8 np e8 hp => ?_
      have e68 := e6.trans (e7.trans e8)
      have Z8 := Z.up e68
      have ok8 : DeedOk H8 wd hd y := by
        rcases ok7 with ⟨rfl, z⟩ | ⟨z, z1, z2⟩
        · exact .inl ⟨rfl, z.up e8⟩
        · exact .inr ⟨z, z1.up e8, z2.up e8⟩
      refine ⟨kk, oo, wp, l, q, p, ds, rows, prs, wd, hd, y, rfl, Z8, hp, ok8, fun wp' l' q' ds' rows' prs' H9 ol oq b9 Z9 => .inr ⟨rfl, ?_⟩⟩
      obtain ⟨M9, f⟩ := M.done e68 hkk hoo Z lk' lw qk qw ol oq b9 Z9
      have kk8 : KO A H8 kk := .inl (by obtain ⟨dx, z⟩ := Z8.kept.ob; exact ⟨dx, wp, z⟩)
      have ko8 : KO A H8 oo := .inr ⟨_, _, Z8.own⟩
      have hM : ∀ m ∈ [kk, oo], KO A H8 m := fun m hm => by
        simp at hm
        rcases hm with rfl | rfl
        · exact kk8
        · exact ko8
      have hdd8 := e8 _ _ hdd7
      have hdd9 := b9.kp _ _ hdd8 (by have a1 := kk8.tup hdd8; have a2 := ko8.tup hdd8; simp [a1, a2])
      refine hN _ _ ⟨rfl, M9, repX_but b9 hM (repX_up r7 e8), repX_but b9 hM (repX_up hdr (e7.trans e8)), hdd9, ?_⟩
      rcases ol7 with ⟨h, xs, rfl, h7, n6, l7⟩ | nl
      · exact .inl ⟨h, xs, rfl, (f h xs (xs ++ [.int 0]) (fresh_back e6 n6) (e8 _ _ h7)).1, l7, (f h xs (xs ++ [.int 0]) (fresh_back e6 n6) (e8 _ _ h7)).2⟩
      · exact .inr (ty_but (L7.th.up e8) (fun a xs hx ha => nl a xs hx (thing_same L7.th e8 hx ha)) b9 Z8.kept.ob Z8.own Z9.own)
    obtain ⟨rfl, M9, r9, rx9, hdd9, ol9⟩ := m
    have hk9 := M9.hk
    have ho9 := M9.ho
    refine seq_by (fun σ1 H10 => σ1 = [some (.ref s0), some (.ref odl), some (.ref kl), some (.ref wl), some (.int (i : Int)), b5, b6, some (.int c), some (.int (w : Int)), some (.ref dd), some hd] ∧ H9 = H10) (fun N hN => ?_) (fun s1 H10 m => ?_)
    · simp [hdd9]
      exact ⟨dr, r9, dr, rx9, .inl ⟨rfl, hN _ _ ⟨rfl, rfl⟩⟩⟩
    obtain ⟨rfl, rfl⟩ := m
    refine seq_by (fun σ1 H10 => σ1 = [some (.ref s0), some (.ref odl), some (.ref kl), some (.ref wl), some (.int (i : Int)), b5, b6, some (.int c), some (.int (w : Int)), some (.ref dd), some hd] ∧ MainAt A H H10 kl wl ks os) (fun N hN => ?_) (fun s1 H10 m => ?_)
    · simp
      rcases ol9 with ⟨h, xs, rfl, h9, l9, Mn⟩ | ⟨t, t1, t2⟩
      · refine ⟨"list", tyN_lst h9, .inr ⟨rfl, ⟨h, rfl, xs, h9⟩, ?_⟩⟩
        rw [j_app]
        exact ⟨xs, h9, lt_line (by omega), hN _ _ ⟨rfl, Mn⟩⟩
      · exact ⟨t, t1, .inl ⟨t2, hN _ _ ⟨rfl, M9⟩⟩⟩
    obtain ⟨rfl, M10⟩ := m
    refine seq_by (fun σ1 H11 => σ1 = [some (.ref s0), some (.ref odl), some (.ref kl), some (.ref wl), some (.int (i : Int)), b5, b6, some (.int c), some (.int (w : Int)), some (.ref dd), some hd] ∧ MainAt A H H11 kl wl ks os) (fun N hN => ?_) (fun s1 H11 m => ?_)
    · simp
      refine ⟨by show 2 ≤ 1000; omega, fun p H11 np e11 hp => ⟨p, rfl, ⟨_, .inl (.inl hp)⟩, fun D hD => lc_tupS (xs := [.int 0, .int 1]) (fun i y _ => y = (fun _ => V.bl true) i) stay_val hD (.inl (.inl hp)) (by simp) (fun i x H2 Nn hx e hH hN' => ?_) (fun acc H2 e h4 hlen hall => ?_)⟩⟩
      · obtain ⟨i2, rfl⟩ : i < 2 ∧ x = .int (i : Int) := by
          match i, hx with
          | 0, hx => cases hx; exact ⟨by omega, rfl⟩
          | 1, hx => cases hx; exact ⟨by omega, rfl⟩
          | n + 2, hx => simp at hx
        have Mi := M10.up (e11.trans e)
        have hki := Mi.hk
        have hoi := Mi.ho
        obtain ⟨k1, hk1⟩ : ∃ kk, ks[i]? = some kk := ⟨_, List.getElem?_eq_getElem (by omega)⟩
        obtain ⟨o1, ho1⟩ : ∃ oo, os[i]? = some oo := ⟨_, List.getElem?_eq_getElem (by have := M.ln; omega)⟩
        obtain ⟨wp3, l3, q3, ds3, rows3, prs3, Z3, _⟩ := Mi.each i k1 o1 hk1 ho1
        simp [wipe, hki, hoi, hk1, ho1]
        exact ⟨k1, o1, wp3, l3, q3, ds3, rows3, prs3, rfl, Z3, fun H4 e4 => hN' _ _ e4 rfl⟩
      · have ea : acc = [true, true].map V.bl := by
          apply List.ext_getElem?
          intro i
          cases z : acc[i]? with
          | none =>
            have := List.getElem?_eq_none_iff.mp z
            rw [List.getElem?_eq_none (by simpa [hlen] using this)]
          | some y =>
            have lt := lt_of_get z
            rw [hlen] at lt
            rw [hall i y z]
            match i, lt with
            | 0, _ => rfl
            | 1, _ => rfl
            | _ + 2, h => exact absurd h (by show ¬ _ < 2; omega)
        exact ⟨D, [true, true], rfl, .inl (.inl (by rw [← ea]; exact h4)), .inr ⟨rfl, hN _ _ ⟨rfl, M10.up (e11.trans e)⟩⟩⟩
    obtain ⟨rfl, M11⟩ := m
    have hk11 := M11.hk
    have ho11 := M11.ho
    obtain ⟨wp2, l2, q2, ds2, rows2, prs2, Z11, _⟩ := M11.each w kk oo hkk hoo
    have own11 := Z11.own
    simp [ho11, hoo, own11, own_many]
    by_cases c12 : ((rows2.length : Nat) : Int) = 12
    · exact .inr ⟨c12, k _⟩
    · exact .inl ⟨c12, M11⟩
end
end Jk

namespace Jk
open PySem L2 Evl
theorem all_mk {l : PySem.W.OpenLaw} {w : World} {K : PySem.W.Frag} {h : Heap} {mg : Str → Option Value} {fa c_BadPoint c_BadSize c_BadText c_BadTree c_JoinError c_Kept c_NoTie c_NoTree c_TooMany c_Twice c_Web a_NoTree_init a_whole_within a_unlike_points a_pairs a_Web_init a_Web_many a_Web_has a_Web_put a_Web_take a_Web_grow a_Web_beside a_Web_ties a_Web_need_point a_part a_row_in a_tree_of a_near_each a_told_of a_groups a_group_of a_Kept_init a_Kept_put a_Kept_take a_Kept_grow a_Kept_tree a_Kept_web a_Kept_become a_l_mixed a_l_number a_l_kind a_l_whole a_l_least a_l_points a_l_ties a_l_is_tree a_l_form a_l_is_row a_l_near a_l_has_row a_l_is_point a_l_due a_l_said a_l_done a_l_right a_l_deed a_l_size_refused a_law : Addr} (X : K.In h) (G : h.Ns mainGlobals mg) (hfa : mg "law" = some (.ref fa))
    {oc_NoTree_init dc_NoTree_init pm_NoTree_init cd_NoTree_init ct_NoTree_init oc_whole_within kV_whole_within dc_whole_within pm_whole_within cd_whole_within ct_whole_within oc_unlike_points kV_unlike_points dc_unlike_points pm_unlike_points cd_unlike_points ct_unlike_points oc_pairs kV_pairs dc_pairs pm_pairs cd_pairs ct_pairs oc_Web_init kV_Web_init dc_Web_init pm_Web_init cd_Web_init ct_Web_init oc_Web_many kV_Web_many dc_Web_many pm_Web_many cd_Web_many ct_Web_many oc_Web_has kV_Web_has dc_Web_has pm_Web_has cd_Web_has ct_Web_has oc_Web_put kV_Web_put dc_Web_put pm_Web_put cd_Web_put ct_Web_put oc_Web_take kV_Web_take dc_Web_take pm_Web_take cd_Web_take ct_Web_take oc_Web_grow kV_Web_grow dc_Web_grow pm_Web_grow cd_Web_grow ct_Web_grow oc_Web_beside kV_Web_beside dc_Web_beside pm_Web_beside cd_Web_beside ct_Web_beside oc_Web_ties kV_Web_ties dc_Web_ties pm_Web_ties cd_Web_ties ct_Web_ties oc_Web_need_point kV_Web_need_point dc_Web_need_point pm_Web_need_point cd_Web_need_point ct_Web_need_point oc_part kV_part dc_part pm_part cd_part ct_part oc_row_in kV_row_in dc_row_in pm_row_in cd_row_in ct_row_in oc_tree_of kV_tree_of dc_tree_of pm_tree_of cd_tree_of ct_tree_of oc_near_each kV_near_each dc_near_each pm_near_each cd_near_each ct_near_each oc_told_of kV_told_of dc_told_of pm_told_of cd_told_of ct_told_of oc_groups kV_groups dc_groups pm_groups cd_groups ct_groups oc_group_of kV_group_of dc_group_of pm_group_of cd_group_of ct_group_of oc_Kept_init kV_Kept_init dc_Kept_init pm_Kept_init cd_Kept_init ct_Kept_init oc_Kept_put kV_Kept_put dc_Kept_put pm_Kept_put cd_Kept_put ct_Kept_put oc_Kept_take kV_Kept_take dc_Kept_take pm_Kept_take cd_Kept_take ct_Kept_take oc_Kept_grow kV_Kept_grow dc_Kept_grow pm_Kept_grow cd_Kept_grow ct_Kept_grow oc_Kept_tree kV_Kept_tree dc_Kept_tree pm_Kept_tree cd_Kept_tree ct_Kept_tree oc_Kept_web kV_Kept_web dc_Kept_web pm_Kept_web cd_Kept_web ct_Kept_web oc_Kept_become kV_Kept_become dc_Kept_become pm_Kept_become cd_Kept_become ct_Kept_become oc_l_mixed kV_l_mixed dc_l_mixed pm_l_mixed cd_l_mixed ct_l_mixed oc_l_number kV_l_number dc_l_number pm_l_number cd_l_number ct_l_number oc_l_kind kV_l_kind dc_l_kind pm_l_kind cd_l_kind ct_l_kind oc_l_whole kV_l_whole dc_l_whole pm_l_whole cd_l_whole ct_l_whole oc_l_least kV_l_least dc_l_least pm_l_least cd_l_least ct_l_least oc_l_points kV_l_points dc_l_points pm_l_points cd_l_points ct_l_points oc_l_ties kV_l_ties dc_l_ties pm_l_ties cd_l_ties ct_l_ties oc_l_is_tree kV_l_is_tree dc_l_is_tree pm_l_is_tree cd_l_is_tree ct_l_is_tree oc_l_form kV_l_form dc_l_form pm_l_form cd_l_form ct_l_form oc_l_is_row kV_l_is_row dc_l_is_row pm_l_is_row cd_l_is_row ct_l_is_row oc_l_near kV_l_near dc_l_near pm_l_near cd_l_near ct_l_near oc_l_has_row kV_l_has_row dc_l_has_row pm_l_has_row cd_l_has_row ct_l_has_row oc_l_is_point kV_l_is_point dc_l_is_point pm_l_is_point cd_l_is_point ct_l_is_point oc_l_due kV_l_due dc_l_due pm_l_due cd_l_due ct_l_due oc_l_said kV_l_said dc_l_said pm_l_said cd_l_said ct_l_said oc_l_done kV_l_done dc_l_done pm_l_done cd_l_done ct_l_done oc_l_right kV_l_right dc_l_right pm_l_right cd_l_right ct_l_right oc_l_deed kV_l_deed dc_l_deed pm_l_deed cd_l_deed ct_l_deed oc_l_size_refused kV_l_size_refused dc_l_size_refused pm_l_size_refused cd_l_size_refused ct_l_size_refused oc_law kV_law dc_law pm_law cd_law ct_law : Value} {od_NoTree_init od_whole_within od_unlike_points od_pairs od_Web_init od_Web_many od_Web_has od_Web_put od_Web_take od_Web_grow od_Web_beside od_Web_ties od_Web_need_point od_part od_row_in od_tree_of od_near_each od_told_of od_groups od_group_of od_Kept_init od_Kept_put od_Kept_take od_Kept_grow od_Kept_tree od_Kept_web od_Kept_become od_l_mixed od_l_number od_l_kind od_l_whole od_l_least od_l_points od_l_ties od_l_is_tree od_l_form od_l_is_row od_l_near od_l_has_row od_l_is_point od_l_due od_l_said od_l_done od_l_right od_l_deed od_l_size_refused od_law an_NoTree_init an_whole_within an_unlike_points an_pairs an_Web_init an_Web_many an_Web_has an_Web_put an_Web_take an_Web_grow an_Web_beside an_Web_ties an_Web_need_point an_part an_row_in an_tree_of an_near_each an_told_of an_groups an_group_of an_Kept_init an_Kept_put an_Kept_take an_Kept_grow an_Kept_tree an_Kept_web an_Kept_become an_l_mixed an_l_number an_l_kind an_l_whole an_l_least an_l_points an_l_ties an_l_is_tree an_l_form an_l_is_row an_l_near an_l_has_row an_l_is_point an_l_due an_l_said an_l_done an_l_right an_l_deed an_l_size_refused an_law : Option Addr} {sl_NoTree_init sl_whole_within sl_unlike_points sl_pairs sl_Web_init sl_Web_many sl_Web_has sl_Web_put sl_Web_take sl_Web_grow sl_Web_beside sl_Web_ties sl_Web_need_point sl_part sl_row_in sl_tree_of sl_near_each sl_told_of sl_groups sl_group_of sl_Kept_init sl_Kept_put sl_Kept_take sl_Kept_grow sl_Kept_tree sl_Kept_web sl_Kept_become sl_l_mixed sl_l_number sl_l_kind sl_l_whole sl_l_least sl_l_points sl_l_ties sl_l_is_tree sl_l_form sl_l_is_row sl_l_near sl_l_has_row sl_l_is_point sl_l_due sl_l_said sl_l_done sl_l_right sl_l_deed sl_l_size_refused sl_law : Array (Option Value)} {tk_MOST_POINTS tk_SIDE tk_JOIN : Tok} {nt_nm nt_q : Str} {nt_N : Addr} {nt_bs nt_bm nt_sub : List Value} {nt_sn : List Str} {nt_ab : Bool} {nt_col : Option Bool} {nt_dd : Option Addr} {nt_0 nt_1 nt_2 nt_3 nt_5 : Option Value}
    (h_c_BadPoint : PySem.W.nsIn K mainGlobals "BadPoint" = some (some (.ref c_BadPoint)))
    (h_c_BadSize : PySem.W.nsIn K mainGlobals "BadSize" = some (some (.ref c_BadSize)))
    (h_c_BadText : PySem.W.nsIn K mainGlobals "BadText" = some (some (.ref c_BadText)))
    (h_c_BadTree : PySem.W.nsIn K mainGlobals "BadTree" = some (some (.ref c_BadTree)))
    (h_c_JoinError : PySem.W.nsIn K mainGlobals "JoinError" = some (some (.ref c_JoinError)))
    (h_c_Kept : PySem.W.nsIn K mainGlobals "Kept" = some (some (.ref c_Kept)))
    (h_c_NoTie : PySem.W.nsIn K mainGlobals "NoTie" = some (some (.ref c_NoTie)))
    (h_c_NoTree : PySem.W.nsIn K mainGlobals "NoTree" = some (some (.ref c_NoTree)))
    (h_c_TooMany : PySem.W.nsIn K mainGlobals "TooMany" = some (some (.ref c_TooMany)))
    (h_c_Twice : PySem.W.nsIn K mainGlobals "Twice" = some (some (.ref c_Twice)))
    (h_c_Web : PySem.W.nsIn K mainGlobals "Web" = some (some (.ref c_Web)))
    (f_NoTree_init : PySem.W.findIn K (.ref c_NoTree) "__init__" = some (some (.ref a_NoTree_init)))
    (i_NoTree_init : PySem.W.isFn K (.ref a_NoTree_init) = true)
    (l_NoTree_init : K.lookup a_NoTree_init = some ⟨oc_NoTree_init, od_NoTree_init, .func (PySem.W.fnOf "__init__" "NoTree.__init__" (defArgs s_NoTree_init) (defBody s_NoTree_init) (defScope s_NoTree_init) .none .none dc_NoTree_init pm_NoTree_init an_NoTree_init cd_NoTree_init ct_NoTree_init), sl_NoTree_init⟩)
    (c_NoTree_init : PySem.W.codeIn K cd_NoTree_init "NoTree.__init__" = true)
    (k_NoTree_init : PySem.W.keepIn K (.ref a_NoTree_init) = true)
    (f_whole_within : PySem.W.nsIn K mainGlobals "whole_within" = some (some (.ref a_whole_within)))
    (l_whole_within : K.lookup a_whole_within = some ⟨oc_whole_within, od_whole_within, .func (PySem.W.fnOf "whole_within" "whole_within" (defArgs s_whole_within) (defBody s_whole_within) (defScope s_whole_within) .none kV_whole_within dc_whole_within pm_whole_within an_whole_within cd_whole_within ct_whole_within), sl_whole_within⟩)
    (c_whole_within : PySem.W.codeIn K cd_whole_within "whole_within" = true)
    (k_whole_within : PySem.W.keepIn K (.ref a_whole_within) = true)
    (f_unlike_points : PySem.W.nsIn K mainGlobals "unlike_points" = some (some (.ref a_unlike_points)))
    (l_unlike_points : K.lookup a_unlike_points = some ⟨oc_unlike_points, od_unlike_points, .func (PySem.W.fnOf "unlike_points" "unlike_points" (defArgs s_unlike_points) (defBody s_unlike_points) (defScope s_unlike_points) .none kV_unlike_points dc_unlike_points pm_unlike_points an_unlike_points cd_unlike_points ct_unlike_points), sl_unlike_points⟩)
    (c_unlike_points : PySem.W.codeIn K cd_unlike_points "unlike_points" = true)
    (k_unlike_points : PySem.W.keepIn K (.ref a_unlike_points) = true)
    (f_pairs : PySem.W.nsIn K mainGlobals "pairs" = some (some (.ref a_pairs)))
    (l_pairs : K.lookup a_pairs = some ⟨oc_pairs, od_pairs, .func (PySem.W.fnOf "pairs" "pairs" (defArgs s_pairs) (defBody s_pairs) (defScope s_pairs) .none kV_pairs dc_pairs pm_pairs an_pairs cd_pairs ct_pairs), sl_pairs⟩)
    (c_pairs : PySem.W.codeIn K cd_pairs "pairs" = true)
    (k_pairs : PySem.W.keepIn K (.ref a_pairs) = true)
    (f_Web_init : PySem.W.findIn K (.ref c_Web) "__init__" = some (some (.ref a_Web_init)))
    (i_Web_init : PySem.W.isFn K (.ref a_Web_init) = true)
    (l_Web_init : K.lookup a_Web_init = some ⟨oc_Web_init, od_Web_init, .func (PySem.W.fnOf "__init__" "Web.__init__" (defArgs s_Web_init) (defBody s_Web_init) (defScope s_Web_init) .none kV_Web_init dc_Web_init pm_Web_init an_Web_init cd_Web_init ct_Web_init), sl_Web_init⟩)
    (c_Web_init : PySem.W.codeIn K cd_Web_init "Web.__init__" = true)
    (k_Web_init : PySem.W.keepIn K (.ref a_Web_init) = true)
    (f_Web_many : PySem.W.findIn K (.ref c_Web) "many" = some (some (.ref a_Web_many)))
    (i_Web_many : PySem.W.isFn K (.ref a_Web_many) = true)
    (l_Web_many : K.lookup a_Web_many = some ⟨oc_Web_many, od_Web_many, .func (PySem.W.fnOf "many" "Web.many" (defArgs s_Web_many) (defBody s_Web_many) (defScope s_Web_many) .none kV_Web_many dc_Web_many pm_Web_many an_Web_many cd_Web_many ct_Web_many), sl_Web_many⟩)
    (c_Web_many : PySem.W.codeIn K cd_Web_many "Web.many" = true)
    (k_Web_many : PySem.W.keepIn K (.ref a_Web_many) = true)
    (f_Web_has : PySem.W.findIn K (.ref c_Web) "has" = some (some (.ref a_Web_has)))
    (i_Web_has : PySem.W.isFn K (.ref a_Web_has) = true)
    (l_Web_has : K.lookup a_Web_has = some ⟨oc_Web_has, od_Web_has, .func (PySem.W.fnOf "has" "Web.has" (defArgs s_Web_has) (defBody s_Web_has) (defScope s_Web_has) .none kV_Web_has dc_Web_has pm_Web_has an_Web_has cd_Web_has ct_Web_has), sl_Web_has⟩)
    (c_Web_has : PySem.W.codeIn K cd_Web_has "Web.has" = true)
    (k_Web_has : PySem.W.keepIn K (.ref a_Web_has) = true)
    (f_Web_put : PySem.W.findIn K (.ref c_Web) "put" = some (some (.ref a_Web_put)))
    (i_Web_put : PySem.W.isFn K (.ref a_Web_put) = true)
    (l_Web_put : K.lookup a_Web_put = some ⟨oc_Web_put, od_Web_put, .func (PySem.W.fnOf "put" "Web.put" (defArgs s_Web_put) (defBody s_Web_put) (defScope s_Web_put) .none kV_Web_put dc_Web_put pm_Web_put an_Web_put cd_Web_put ct_Web_put), sl_Web_put⟩)
    (c_Web_put : PySem.W.codeIn K cd_Web_put "Web.put" = true)
    (k_Web_put : PySem.W.keepIn K (.ref a_Web_put) = true)
    (f_Web_take : PySem.W.findIn K (.ref c_Web) "take" = some (some (.ref a_Web_take)))
    (i_Web_take : PySem.W.isFn K (.ref a_Web_take) = true)
    (l_Web_take : K.lookup a_Web_take = some ⟨oc_Web_take, od_Web_take, .func (PySem.W.fnOf "take" "Web.take" (defArgs s_Web_take) (defBody s_Web_take) (defScope s_Web_take) .none kV_Web_take dc_Web_take pm_Web_take an_Web_take cd_Web_take ct_Web_take), sl_Web_take⟩)
    (c_Web_take : PySem.W.codeIn K cd_Web_take "Web.take" = true)
    (k_Web_take : PySem.W.keepIn K (.ref a_Web_take) = true)
    (f_Web_grow : PySem.W.findIn K (.ref c_Web) "grow" = some (some (.ref a_Web_grow)))
    (i_Web_grow : PySem.W.isFn K (.ref a_Web_grow) = true)
    (l_Web_grow : K.lookup a_Web_grow = some ⟨oc_Web_grow, od_Web_grow, .func (PySem.W.fnOf "grow" "Web.grow" (defArgs s_Web_grow) (defBody s_Web_grow) (defScope s_Web_grow) .none kV_Web_grow dc_Web_grow pm_Web_grow an_Web_grow cd_Web_grow ct_Web_grow), sl_Web_grow⟩)
    (c_Web_grow : PySem.W.codeIn K cd_Web_grow "Web.grow" = true)
    (k_Web_grow : PySem.W.keepIn K (.ref a_Web_grow) = true)
    (f_Web_beside : PySem.W.findIn K (.ref c_Web) "beside" = some (some (.ref a_Web_beside)))
    (i_Web_beside : PySem.W.isFn K (.ref a_Web_beside) = true)
    (l_Web_beside : K.lookup a_Web_beside = some ⟨oc_Web_beside, od_Web_beside, .func (PySem.W.fnOf "beside" "Web.beside" (defArgs s_Web_beside) (defBody s_Web_beside) (defScope s_Web_beside) .none kV_Web_beside dc_Web_beside pm_Web_beside an_Web_beside cd_Web_beside ct_Web_beside), sl_Web_beside⟩)
    (c_Web_beside : PySem.W.codeIn K cd_Web_beside "Web.beside" = true)
    (k_Web_beside : PySem.W.keepIn K (.ref a_Web_beside) = true)
    (f_Web_ties : PySem.W.findIn K (.ref c_Web) "ties" = some (some (.ref a_Web_ties)))
    (i_Web_ties : PySem.W.isFn K (.ref a_Web_ties) = true)
    (l_Web_ties : K.lookup a_Web_ties = some ⟨oc_Web_ties, od_Web_ties, .func (PySem.W.fnOf "ties" "Web.ties" (defArgs s_Web_ties) (defBody s_Web_ties) (defScope s_Web_ties) .none kV_Web_ties dc_Web_ties pm_Web_ties an_Web_ties cd_Web_ties ct_Web_ties), sl_Web_ties⟩)
    (c_Web_ties : PySem.W.codeIn K cd_Web_ties "Web.ties" = true)
    (k_Web_ties : PySem.W.keepIn K (.ref a_Web_ties) = true)
    (f_Web_need_point : PySem.W.findIn K (.ref c_Web) "_need_point" = some (some (.ref a_Web_need_point)))
    (i_Web_need_point : PySem.W.isFn K (.ref a_Web_need_point) = true)
    (l_Web_need_point : K.lookup a_Web_need_point = some ⟨oc_Web_need_point, od_Web_need_point, .func (PySem.W.fnOf "_need_point" "Web._need_point" (defArgs s_Web_need_point) (defBody s_Web_need_point) (defScope s_Web_need_point) .none kV_Web_need_point dc_Web_need_point pm_Web_need_point an_Web_need_point cd_Web_need_point ct_Web_need_point), sl_Web_need_point⟩)
    (c_Web_need_point : PySem.W.codeIn K cd_Web_need_point "Web._need_point" = true)
    (k_Web_need_point : PySem.W.keepIn K (.ref a_Web_need_point) = true)
    (f_part : PySem.W.nsIn K mainGlobals "part" = some (some (.ref a_part)))
    (l_part : K.lookup a_part = some ⟨oc_part, od_part, .func (PySem.W.fnOf "part" "part" (defArgs s_part) (defBody s_part) (defScope s_part) .none kV_part dc_part pm_part an_part cd_part ct_part), sl_part⟩)
    (c_part : PySem.W.codeIn K cd_part "part" = true)
    (k_part : PySem.W.keepIn K (.ref a_part) = true)
    (f_row_in : PySem.W.nsIn K mainGlobals "row_in" = some (some (.ref a_row_in)))
    (l_row_in : K.lookup a_row_in = some ⟨oc_row_in, od_row_in, .func (PySem.W.fnOf "row_in" "row_in" (defArgs s_row_in) (defBody s_row_in) (defScope s_row_in) .none kV_row_in dc_row_in pm_row_in an_row_in cd_row_in ct_row_in), sl_row_in⟩)
    (c_row_in : PySem.W.codeIn K cd_row_in "row_in" = true)
    (k_row_in : PySem.W.keepIn K (.ref a_row_in) = true)
    (f_tree_of : PySem.W.nsIn K mainGlobals "tree_of" = some (some (.ref a_tree_of)))
    (l_tree_of : K.lookup a_tree_of = some ⟨oc_tree_of, od_tree_of, .func (PySem.W.fnOf "tree_of" "tree_of" (defArgs s_tree_of) (defBody s_tree_of) (defScope s_tree_of) .none kV_tree_of dc_tree_of pm_tree_of an_tree_of cd_tree_of ct_tree_of), sl_tree_of⟩)
    (c_tree_of : PySem.W.codeIn K cd_tree_of "tree_of" = true)
    (k_tree_of : PySem.W.keepIn K (.ref a_tree_of) = true)
    (f_near_each : PySem.W.nsIn K mainGlobals "_near_each" = some (some (.ref a_near_each)))
    (l_near_each : K.lookup a_near_each = some ⟨oc_near_each, od_near_each, .func (PySem.W.fnOf "_near_each" "_near_each" (defArgs s_near_each) (defBody s_near_each) (defScope s_near_each) .none kV_near_each dc_near_each pm_near_each an_near_each cd_near_each ct_near_each), sl_near_each⟩)
    (c_near_each : PySem.W.codeIn K cd_near_each "_near_each" = true)
    (k_near_each : PySem.W.keepIn K (.ref a_near_each) = true)
    (f_told_of : PySem.W.nsIn K mainGlobals "_told_of" = some (some (.ref a_told_of)))
    (l_told_of : K.lookup a_told_of = some ⟨oc_told_of, od_told_of, .func (PySem.W.fnOf "_told_of" "_told_of" (defArgs s_told_of) (defBody s_told_of) (defScope s_told_of) .none kV_told_of dc_told_of pm_told_of an_told_of cd_told_of ct_told_of), sl_told_of⟩)
    (c_told_of : PySem.W.codeIn K cd_told_of "_told_of" = true)
    (k_told_of : PySem.W.keepIn K (.ref a_told_of) = true)
    (f_groups : PySem.W.nsIn K mainGlobals "_groups" = some (some (.ref a_groups)))
    (l_groups : K.lookup a_groups = some ⟨oc_groups, od_groups, .func (PySem.W.fnOf "_groups" "_groups" (defArgs s_groups) (defBody s_groups) (defScope s_groups) .none kV_groups dc_groups pm_groups an_groups cd_groups ct_groups), sl_groups⟩)
    (c_groups : PySem.W.codeIn K cd_groups "_groups" = true)
    (k_groups : PySem.W.keepIn K (.ref a_groups) = true)
    (f_group_of : PySem.W.nsIn K mainGlobals "_group_of" = some (some (.ref a_group_of)))
    (l_group_of : K.lookup a_group_of = some ⟨oc_group_of, od_group_of, .func (PySem.W.fnOf "_group_of" "_group_of" (defArgs s_group_of) (defBody s_group_of) (defScope s_group_of) .none kV_group_of dc_group_of pm_group_of an_group_of cd_group_of ct_group_of), sl_group_of⟩)
    (c_group_of : PySem.W.codeIn K cd_group_of "_group_of" = true)
    (k_group_of : PySem.W.keepIn K (.ref a_group_of) = true)
    (f_Kept_init : PySem.W.findIn K (.ref c_Kept) "__init__" = some (some (.ref a_Kept_init)))
    (i_Kept_init : PySem.W.isFn K (.ref a_Kept_init) = true)
    (l_Kept_init : K.lookup a_Kept_init = some ⟨oc_Kept_init, od_Kept_init, .func (PySem.W.fnOf "__init__" "Kept.__init__" (defArgs s_Kept_init) (defBody s_Kept_init) (defScope s_Kept_init) .none kV_Kept_init dc_Kept_init pm_Kept_init an_Kept_init cd_Kept_init ct_Kept_init), sl_Kept_init⟩)
    (c_Kept_init : PySem.W.codeIn K cd_Kept_init "Kept.__init__" = true)
    (k_Kept_init : PySem.W.keepIn K (.ref a_Kept_init) = true)
    (f_Kept_put : PySem.W.findIn K (.ref c_Kept) "put" = some (some (.ref a_Kept_put)))
    (i_Kept_put : PySem.W.isFn K (.ref a_Kept_put) = true)
    (l_Kept_put : K.lookup a_Kept_put = some ⟨oc_Kept_put, od_Kept_put, .func (PySem.W.fnOf "put" "Kept.put" (defArgs s_Kept_put) (defBody s_Kept_put) (defScope s_Kept_put) .none kV_Kept_put dc_Kept_put pm_Kept_put an_Kept_put cd_Kept_put ct_Kept_put), sl_Kept_put⟩)
    (c_Kept_put : PySem.W.codeIn K cd_Kept_put "Kept.put" = true)
    (k_Kept_put : PySem.W.keepIn K (.ref a_Kept_put) = true)
    (f_Kept_take : PySem.W.findIn K (.ref c_Kept) "take" = some (some (.ref a_Kept_take)))
    (i_Kept_take : PySem.W.isFn K (.ref a_Kept_take) = true)
    (l_Kept_take : K.lookup a_Kept_take = some ⟨oc_Kept_take, od_Kept_take, .func (PySem.W.fnOf "take" "Kept.take" (defArgs s_Kept_take) (defBody s_Kept_take) (defScope s_Kept_take) .none kV_Kept_take dc_Kept_take pm_Kept_take an_Kept_take cd_Kept_take ct_Kept_take), sl_Kept_take⟩)
    (c_Kept_take : PySem.W.codeIn K cd_Kept_take "Kept.take" = true)
    (k_Kept_take : PySem.W.keepIn K (.ref a_Kept_take) = true)
    (f_Kept_grow : PySem.W.findIn K (.ref c_Kept) "grow" = some (some (.ref a_Kept_grow)))
    (i_Kept_grow : PySem.W.isFn K (.ref a_Kept_grow) = true)
    (l_Kept_grow : K.lookup a_Kept_grow = some ⟨oc_Kept_grow, od_Kept_grow, .func (PySem.W.fnOf "grow" "Kept.grow" (defArgs s_Kept_grow) (defBody s_Kept_grow) (defScope s_Kept_grow) .none kV_Kept_grow dc_Kept_grow pm_Kept_grow an_Kept_grow cd_Kept_grow ct_Kept_grow), sl_Kept_grow⟩)
    (c_Kept_grow : PySem.W.codeIn K cd_Kept_grow "Kept.grow" = true)
    (k_Kept_grow : PySem.W.keepIn K (.ref a_Kept_grow) = true)
    (f_Kept_tree : PySem.W.findIn K (.ref c_Kept) "tree" = some (some (.ref a_Kept_tree)))
    (i_Kept_tree : PySem.W.isFn K (.ref a_Kept_tree) = true)
    (l_Kept_tree : K.lookup a_Kept_tree = some ⟨oc_Kept_tree, od_Kept_tree, .func (PySem.W.fnOf "tree" "Kept.tree" (defArgs s_Kept_tree) (defBody s_Kept_tree) (defScope s_Kept_tree) .none kV_Kept_tree dc_Kept_tree pm_Kept_tree an_Kept_tree cd_Kept_tree ct_Kept_tree), sl_Kept_tree⟩)
    (c_Kept_tree : PySem.W.codeIn K cd_Kept_tree "Kept.tree" = true)
    (k_Kept_tree : PySem.W.keepIn K (.ref a_Kept_tree) = true)
    (f_Kept_web : PySem.W.findIn K (.ref c_Kept) "web" = some (some (.ref a_Kept_web)))
    (i_Kept_web : PySem.W.isFn K (.ref a_Kept_web) = true)
    (l_Kept_web : K.lookup a_Kept_web = some ⟨oc_Kept_web, od_Kept_web, .func (PySem.W.fnOf "web" "Kept.web" (defArgs s_Kept_web) (defBody s_Kept_web) (defScope s_Kept_web) .none kV_Kept_web dc_Kept_web pm_Kept_web an_Kept_web cd_Kept_web ct_Kept_web), sl_Kept_web⟩)
    (c_Kept_web : PySem.W.codeIn K cd_Kept_web "Kept.web" = true)
    (k_Kept_web : PySem.W.keepIn K (.ref a_Kept_web) = true)
    (f_Kept_become : PySem.W.findIn K (.ref c_Kept) "_become" = some (some (.ref a_Kept_become)))
    (i_Kept_become : PySem.W.isFn K (.ref a_Kept_become) = true)
    (l_Kept_become : K.lookup a_Kept_become = some ⟨oc_Kept_become, od_Kept_become, .func (PySem.W.fnOf "_become" "Kept._become" (defArgs s_Kept_become) (defBody s_Kept_become) (defScope s_Kept_become) .none kV_Kept_become dc_Kept_become pm_Kept_become an_Kept_become cd_Kept_become ct_Kept_become), sl_Kept_become⟩)
    (c_Kept_become : PySem.W.codeIn K cd_Kept_become "Kept._become" = true)
    (k_Kept_become : PySem.W.keepIn K (.ref a_Kept_become) = true)
    (f_l_mixed : PySem.W.nsIn K mainGlobals "_law_mixed" = some (some (.ref a_l_mixed)))
    (l_l_mixed : K.lookup a_l_mixed = some ⟨oc_l_mixed, od_l_mixed, .func (PySem.W.fnOf "_law_mixed" "_law_mixed" (defArgs s_l_mixed) (defBody s_l_mixed) (defScope s_l_mixed) .none kV_l_mixed dc_l_mixed pm_l_mixed an_l_mixed cd_l_mixed ct_l_mixed), sl_l_mixed⟩)
    (c_l_mixed : PySem.W.codeIn K cd_l_mixed "_law_mixed" = true)
    (k_l_mixed : PySem.W.keepIn K (.ref a_l_mixed) = true)
    (f_l_number : PySem.W.nsIn K mainGlobals "_law_number" = some (some (.ref a_l_number)))
    (l_l_number : K.lookup a_l_number = some ⟨oc_l_number, od_l_number, .func (PySem.W.fnOf "_law_number" "_law_number" (defArgs s_l_number) (defBody s_l_number) (defScope s_l_number) .none kV_l_number dc_l_number pm_l_number an_l_number cd_l_number ct_l_number), sl_l_number⟩)
    (c_l_number : PySem.W.codeIn K cd_l_number "_law_number" = true)
    (k_l_number : PySem.W.keepIn K (.ref a_l_number) = true)
    (f_l_kind : PySem.W.nsIn K mainGlobals "_law_kind" = some (some (.ref a_l_kind)))
    (l_l_kind : K.lookup a_l_kind = some ⟨oc_l_kind, od_l_kind, .func (PySem.W.fnOf "_law_kind" "_law_kind" (defArgs s_l_kind) (defBody s_l_kind) (defScope s_l_kind) .none kV_l_kind dc_l_kind pm_l_kind an_l_kind cd_l_kind ct_l_kind), sl_l_kind⟩)
    (c_l_kind : PySem.W.codeIn K cd_l_kind "_law_kind" = true)
    (k_l_kind : PySem.W.keepIn K (.ref a_l_kind) = true)
    (f_l_whole : PySem.W.nsIn K mainGlobals "_law_whole" = some (some (.ref a_l_whole)))
    (l_l_whole : K.lookup a_l_whole = some ⟨oc_l_whole, od_l_whole, .func (PySem.W.fnOf "_law_whole" "_law_whole" (defArgs s_l_whole) (defBody s_l_whole) (defScope s_l_whole) .none kV_l_whole dc_l_whole pm_l_whole an_l_whole cd_l_whole ct_l_whole), sl_l_whole⟩)
    (c_l_whole : PySem.W.codeIn K cd_l_whole "_law_whole" = true)
    (k_l_whole : PySem.W.keepIn K (.ref a_l_whole) = true)
    (f_l_least : PySem.W.nsIn K mainGlobals "_law_least" = some (some (.ref a_l_least)))
    (l_l_least : K.lookup a_l_least = some ⟨oc_l_least, od_l_least, .func (PySem.W.fnOf "_law_least" "_law_least" (defArgs s_l_least) (defBody s_l_least) (defScope s_l_least) .none kV_l_least dc_l_least pm_l_least an_l_least cd_l_least ct_l_least), sl_l_least⟩)
    (c_l_least : PySem.W.codeIn K cd_l_least "_law_least" = true)
    (k_l_least : PySem.W.keepIn K (.ref a_l_least) = true)
    (f_l_points : PySem.W.nsIn K mainGlobals "_law_points" = some (some (.ref a_l_points)))
    (l_l_points : K.lookup a_l_points = some ⟨oc_l_points, od_l_points, .func (PySem.W.fnOf "_law_points" "_law_points" (defArgs s_l_points) (defBody s_l_points) (defScope s_l_points) .none kV_l_points dc_l_points pm_l_points an_l_points cd_l_points ct_l_points), sl_l_points⟩)
    (c_l_points : PySem.W.codeIn K cd_l_points "_law_points" = true)
    (k_l_points : PySem.W.keepIn K (.ref a_l_points) = true)
    (f_l_ties : PySem.W.nsIn K mainGlobals "_law_ties" = some (some (.ref a_l_ties)))
    (l_l_ties : K.lookup a_l_ties = some ⟨oc_l_ties, od_l_ties, .func (PySem.W.fnOf "_law_ties" "_law_ties" (defArgs s_l_ties) (defBody s_l_ties) (defScope s_l_ties) .none kV_l_ties dc_l_ties pm_l_ties an_l_ties cd_l_ties ct_l_ties), sl_l_ties⟩)
    (c_l_ties : PySem.W.codeIn K cd_l_ties "_law_ties" = true)
    (k_l_ties : PySem.W.keepIn K (.ref a_l_ties) = true)
    (f_l_is_tree : PySem.W.nsIn K mainGlobals "_law_is_tree" = some (some (.ref a_l_is_tree)))
    (l_l_is_tree : K.lookup a_l_is_tree = some ⟨oc_l_is_tree, od_l_is_tree, .func (PySem.W.fnOf "_law_is_tree" "_law_is_tree" (defArgs s_l_is_tree) (defBody s_l_is_tree) (defScope s_l_is_tree) .none kV_l_is_tree dc_l_is_tree pm_l_is_tree an_l_is_tree cd_l_is_tree ct_l_is_tree), sl_l_is_tree⟩)
    (c_l_is_tree : PySem.W.codeIn K cd_l_is_tree "_law_is_tree" = true)
    (k_l_is_tree : PySem.W.keepIn K (.ref a_l_is_tree) = true)
    (f_l_form : PySem.W.nsIn K mainGlobals "_law_form" = some (some (.ref a_l_form)))
    (l_l_form : K.lookup a_l_form = some ⟨oc_l_form, od_l_form, .func (PySem.W.fnOf "_law_form" "_law_form" (defArgs s_l_form) (defBody s_l_form) (defScope s_l_form) .none kV_l_form dc_l_form pm_l_form an_l_form cd_l_form ct_l_form), sl_l_form⟩)
    (c_l_form : PySem.W.codeIn K cd_l_form "_law_form" = true)
    (k_l_form : PySem.W.keepIn K (.ref a_l_form) = true)
    (f_l_is_row : PySem.W.nsIn K mainGlobals "_law_is_row" = some (some (.ref a_l_is_row)))
    (l_l_is_row : K.lookup a_l_is_row = some ⟨oc_l_is_row, od_l_is_row, .func (PySem.W.fnOf "_law_is_row" "_law_is_row" (defArgs s_l_is_row) (defBody s_l_is_row) (defScope s_l_is_row) .none kV_l_is_row dc_l_is_row pm_l_is_row an_l_is_row cd_l_is_row ct_l_is_row), sl_l_is_row⟩)
    (c_l_is_row : PySem.W.codeIn K cd_l_is_row "_law_is_row" = true)
    (k_l_is_row : PySem.W.keepIn K (.ref a_l_is_row) = true)
    (f_l_near : PySem.W.nsIn K mainGlobals "_law_near" = some (some (.ref a_l_near)))
    (l_l_near : K.lookup a_l_near = some ⟨oc_l_near, od_l_near, .func (PySem.W.fnOf "_law_near" "_law_near" (defArgs s_l_near) (defBody s_l_near) (defScope s_l_near) .none kV_l_near dc_l_near pm_l_near an_l_near cd_l_near ct_l_near), sl_l_near⟩)
    (c_l_near : PySem.W.codeIn K cd_l_near "_law_near" = true)
    (k_l_near : PySem.W.keepIn K (.ref a_l_near) = true)
    (f_l_has_row : PySem.W.nsIn K mainGlobals "_law_has_row" = some (some (.ref a_l_has_row)))
    (l_l_has_row : K.lookup a_l_has_row = some ⟨oc_l_has_row, od_l_has_row, .func (PySem.W.fnOf "_law_has_row" "_law_has_row" (defArgs s_l_has_row) (defBody s_l_has_row) (defScope s_l_has_row) .none kV_l_has_row dc_l_has_row pm_l_has_row an_l_has_row cd_l_has_row ct_l_has_row), sl_l_has_row⟩)
    (c_l_has_row : PySem.W.codeIn K cd_l_has_row "_law_has_row" = true)
    (k_l_has_row : PySem.W.keepIn K (.ref a_l_has_row) = true)
    (f_l_is_point : PySem.W.nsIn K mainGlobals "_law_is_point" = some (some (.ref a_l_is_point)))
    (l_l_is_point : K.lookup a_l_is_point = some ⟨oc_l_is_point, od_l_is_point, .func (PySem.W.fnOf "_law_is_point" "_law_is_point" (defArgs s_l_is_point) (defBody s_l_is_point) (defScope s_l_is_point) .none kV_l_is_point dc_l_is_point pm_l_is_point an_l_is_point cd_l_is_point ct_l_is_point), sl_l_is_point⟩)
    (c_l_is_point : PySem.W.codeIn K cd_l_is_point "_law_is_point" = true)
    (k_l_is_point : PySem.W.keepIn K (.ref a_l_is_point) = true)
    (f_l_due : PySem.W.nsIn K mainGlobals "_law_due" = some (some (.ref a_l_due)))
    (l_l_due : K.lookup a_l_due = some ⟨oc_l_due, od_l_due, .func (PySem.W.fnOf "_law_due" "_law_due" (defArgs s_l_due) (defBody s_l_due) (defScope s_l_due) .none kV_l_due dc_l_due pm_l_due an_l_due cd_l_due ct_l_due), sl_l_due⟩)
    (c_l_due : PySem.W.codeIn K cd_l_due "_law_due" = true)
    (k_l_due : PySem.W.keepIn K (.ref a_l_due) = true)
    (f_l_said : PySem.W.nsIn K mainGlobals "_law_said" = some (some (.ref a_l_said)))
    (l_l_said : K.lookup a_l_said = some ⟨oc_l_said, od_l_said, .func (PySem.W.fnOf "_law_said" "_law_said" (defArgs s_l_said) (defBody s_l_said) (defScope s_l_said) .none kV_l_said dc_l_said pm_l_said an_l_said cd_l_said ct_l_said), sl_l_said⟩)
    (c_l_said : PySem.W.codeIn K cd_l_said "_law_said" = true)
    (k_l_said : PySem.W.keepIn K (.ref a_l_said) = true)
    (f_l_done : PySem.W.nsIn K mainGlobals "_law_done" = some (some (.ref a_l_done)))
    (l_l_done : K.lookup a_l_done = some ⟨oc_l_done, od_l_done, .func (PySem.W.fnOf "_law_done" "_law_done" (defArgs s_l_done) (defBody s_l_done) (defScope s_l_done) .none kV_l_done dc_l_done pm_l_done an_l_done cd_l_done ct_l_done), sl_l_done⟩)
    (c_l_done : PySem.W.codeIn K cd_l_done "_law_done" = true)
    (k_l_done : PySem.W.keepIn K (.ref a_l_done) = true)
    (f_l_right : PySem.W.nsIn K mainGlobals "_law_right" = some (some (.ref a_l_right)))
    (l_l_right : K.lookup a_l_right = some ⟨oc_l_right, od_l_right, .func (PySem.W.fnOf "_law_right" "_law_right" (defArgs s_l_right) (defBody s_l_right) (defScope s_l_right) .none kV_l_right dc_l_right pm_l_right an_l_right cd_l_right ct_l_right), sl_l_right⟩)
    (c_l_right : PySem.W.codeIn K cd_l_right "_law_right" = true)
    (k_l_right : PySem.W.keepIn K (.ref a_l_right) = true)
    (f_l_deed : PySem.W.nsIn K mainGlobals "_law_deed" = some (some (.ref a_l_deed)))
    (l_l_deed : K.lookup a_l_deed = some ⟨oc_l_deed, od_l_deed, .func (PySem.W.fnOf "_law_deed" "_law_deed" (defArgs s_l_deed) (defBody s_l_deed) (defScope s_l_deed) .none kV_l_deed dc_l_deed pm_l_deed an_l_deed cd_l_deed ct_l_deed), sl_l_deed⟩)
    (c_l_deed : PySem.W.codeIn K cd_l_deed "_law_deed" = true)
    (k_l_deed : PySem.W.keepIn K (.ref a_l_deed) = true)
    (f_l_size_refused : PySem.W.nsIn K mainGlobals "_law_size_refused" = some (some (.ref a_l_size_refused)))
    (l_l_size_refused : K.lookup a_l_size_refused = some ⟨oc_l_size_refused, od_l_size_refused, .func (PySem.W.fnOf "_law_size_refused" "_law_size_refused" (defArgs s_l_size_refused) (defBody s_l_size_refused) (defScope s_l_size_refused) .none kV_l_size_refused dc_l_size_refused pm_l_size_refused an_l_size_refused cd_l_size_refused ct_l_size_refused), sl_l_size_refused⟩)
    (c_l_size_refused : PySem.W.codeIn K cd_l_size_refused "_law_size_refused" = true)
    (k_l_size_refused : PySem.W.keepIn K (.ref a_l_size_refused) = true)
    (f_law : PySem.W.nsIn K mainGlobals "law" = some (some (.ref a_law)))
    (l_law : K.lookup a_law = some ⟨oc_law, od_law, .func (PySem.W.fnOf "law" "law" (defArgs s_law) (defBody s_law) (defScope s_law) .none kV_law dc_law pm_law an_law cd_law ct_law), sl_law⟩)
    (c_law : PySem.W.codeIn K cd_law "law" = true)
    (k_law : PySem.W.keepIn K (.ref a_law) = true)
    (pg_Kept : PySem.W.plainGet K c_Kept Str.empty = true)
    (hd_Kept : PySem.W.hasDictIn K c_Kept = true)
    (po_Kept : PySem.W.plainOver K c_Kept = true)
    (sa_Kept : PySem.W.findIn K (.ref c_Kept) "__setattr__" = some (some (.builtin "object.__setattr__")))
    (mm_Kept : PySem.W.makesIn K c_Kept = true)
    (kc_Kept : PySem.W.keepIn K (.ref c_Kept) = true)
    (n_Kept__web : PySem.W.findIn K (.ref c_Kept) "_web" = some none)
    (pg_Web : PySem.W.plainGet K c_Web Str.empty = true)
    (hd_Web : PySem.W.hasDictIn K c_Web = true)
    (po_Web : PySem.W.plainOver K c_Web = true)
    (sa_Web : PySem.W.findIn K (.ref c_Web) "__setattr__" = some (some (.builtin "object.__setattr__")))
    (mm_Web : PySem.W.makesIn K c_Web = true)
    (kc_Web : PySem.W.keepIn K (.ref c_Web) = true)
    (n_Web__near : PySem.W.findIn K (.ref c_Web) "_near" = some none)
    (xBadSize : PySem.W.excIn K c_BadSize [.type "ValueError", .type "Exception", .type "BaseException", .type "object"] "ValueError.__new__" = true)
    (kBadSize : PySem.W.keepIn K (.ref c_BadSize) = true)
    (bBadSize : PySem.W.subIn K (.ref c_BadSize) (.type "BaseException") = some true)
    (tBadSize : PySem.W.typeIn K (.ref c_BadSize) = some (.type "type"))
    (xBadPoint : PySem.W.excIn K c_BadPoint [.type "ValueError", .type "Exception", .type "BaseException", .type "object"] "ValueError.__new__" = true)
    (kBadPoint : PySem.W.keepIn K (.ref c_BadPoint) = true)
    (bBadPoint : PySem.W.subIn K (.ref c_BadPoint) (.type "BaseException") = some true)
    (tBadPoint : PySem.W.typeIn K (.ref c_BadPoint) = some (.type "type"))
    (xTwice : PySem.W.excIn K c_Twice [.type "ValueError", .type "Exception", .type "BaseException", .type "object"] "ValueError.__new__" = true)
    (kTwice : PySem.W.keepIn K (.ref c_Twice) = true)
    (bTwice : PySem.W.subIn K (.ref c_Twice) (.type "BaseException") = some true)
    (tTwice : PySem.W.typeIn K (.ref c_Twice) = some (.type "type"))
    (xNoTie : PySem.W.excIn K c_NoTie [.type "ValueError", .type "Exception", .type "BaseException", .type "object"] "ValueError.__new__" = true)
    (kNoTie : PySem.W.keepIn K (.ref c_NoTie) = true)
    (bNoTie : PySem.W.subIn K (.ref c_NoTie) (.type "BaseException") = some true)
    (tNoTie : PySem.W.typeIn K (.ref c_NoTie) = some (.type "type"))
    (xTooMany : PySem.W.excIn K c_TooMany [.type "ValueError", .type "Exception", .type "BaseException", .type "object"] "ValueError.__new__" = true)
    (kTooMany : PySem.W.keepIn K (.ref c_TooMany) = true)
    (bTooMany : PySem.W.subIn K (.ref c_TooMany) (.type "BaseException") = some true)
    (tTooMany : PySem.W.typeIn K (.ref c_TooMany) = some (.type "type"))
    (hb_JoinError : PySem.W.subIn K (.ref c_JoinError) (.type "BaseException") = some true)
    (hdd_JoinError : PySem.W.hasDictIn K c_JoinError = true)
    (ht_JoinError : PySem.W.typeIn K (.ref c_JoinError) = some (.type "type"))
    (su_BadSize_JoinError : PySem.W.subIn K (.ref c_BadSize) (.ref c_JoinError) = some true)
    (su_BadPoint_JoinError : PySem.W.subIn K (.ref c_BadPoint) (.ref c_JoinError) = some true)
    (su_Twice_JoinError : PySem.W.subIn K (.ref c_Twice) (.ref c_JoinError) = some true)
    (su_NoTie_JoinError : PySem.W.subIn K (.ref c_NoTie) (.ref c_JoinError) = some true)
    (su_TooMany_JoinError : PySem.W.subIn K (.ref c_TooMany) (.ref c_JoinError) = some true)
    (hn0 : PySem.W.specialIn K (.builtin "object.__class__") "__get__" = some (some (.builtin "getset_descriptor.__get__")))
    (ht0 : PySem.W.takesIn K (.builtin "object.__class__") = some true)
    (sd_BadSize : PySem.W.hasDictIn K c_BadSize = true)
    (st_BadSize : PySem.W.typeIn K (.ref c_BadSize) = some (.type "type"))
    (ss_BadSize : PySem.W.subIn K (.ref c_BadSize) (.ref c_BadSize) = some true)
    (sd_BadPoint : PySem.W.hasDictIn K c_BadPoint = true)
    (st_BadPoint : PySem.W.typeIn K (.ref c_BadPoint) = some (.type "type"))
    (ss_BadPoint : PySem.W.subIn K (.ref c_BadPoint) (.ref c_BadPoint) = some true)
    (sd_Twice : PySem.W.hasDictIn K c_Twice = true)
    (st_Twice : PySem.W.typeIn K (.ref c_Twice) = some (.type "type"))
    (ss_Twice : PySem.W.subIn K (.ref c_Twice) (.ref c_Twice) = some true)
    (sd_NoTie : PySem.W.hasDictIn K c_NoTie = true)
    (st_NoTie : PySem.W.typeIn K (.ref c_NoTie) = some (.type "type"))
    (ss_NoTie : PySem.W.subIn K (.ref c_NoTie) (.ref c_NoTie) = some true)
    (sd_TooMany : PySem.W.hasDictIn K c_TooMany = true)
    (st_TooMany : PySem.W.typeIn K (.ref c_TooMany) = some (.type "type"))
    (ss_TooMany : PySem.W.subIn K (.ref c_TooMany) (.ref c_TooMany) = some true)
    (sd_NoTree : PySem.W.hasDictIn K c_NoTree = true)
    (st_NoTree : PySem.W.typeIn K (.ref c_NoTree) = some (.type "type"))
    (ss_NoTree : PySem.W.subIn K (.ref c_NoTree) (.ref c_NoTree) = some true)
    (sd_BadTree : PySem.W.hasDictIn K c_BadTree = true)
    (st_BadTree : PySem.W.typeIn K (.ref c_BadTree) = some (.type "type"))
    (ss_BadTree : PySem.W.subIn K (.ref c_BadTree) (.ref c_BadTree) = some true)
    (sd_BadText : PySem.W.hasDictIn K c_BadText = true)
    (st_BadText : PySem.W.typeIn K (.ref c_BadText) = some (.type "type"))
    (ss_BadText : PySem.W.subIn K (.ref c_BadText) (.ref c_BadText) = some true)
    (eg_BadSize : PySem.W.findIn K (.ref c_BadSize) "__getattribute__" = some (some (.builtin "BaseException.__getattribute__")))
    (ek_BadSize : PySem.W.findIn K (.ref c_BadSize) "__getattr__" = some none)
    (ed_BadSize : PySem.W.hasDictIn K c_BadSize = true)
    (ea_BadSize : PySem.W.findIn K (.ref c_BadSize) "__class__" = some (some (.builtin "object.__class__")))
    (em_BadSize : PySem.W.mroIn K c_BadSize (.type "object") = some true)
    (is_BadSize_BadSize : PySem.W.subIn K (.ref c_BadSize) (.ref c_BadSize) = some true)
    (is_BadSize_BadPoint : PySem.W.subIn K (.ref c_BadSize) (.ref c_BadPoint) = some false)
    (is_BadSize_Twice : PySem.W.subIn K (.ref c_BadSize) (.ref c_Twice) = some false)
    (is_BadSize_NoTie : PySem.W.subIn K (.ref c_BadSize) (.ref c_NoTie) = some false)
    (is_BadSize_TooMany : PySem.W.subIn K (.ref c_BadSize) (.ref c_TooMany) = some false)
    (is_BadSize_NoTree : PySem.W.subIn K (.ref c_BadSize) (.ref c_NoTree) = some false)
    (is_BadSize_BadTree : PySem.W.subIn K (.ref c_BadSize) (.ref c_BadTree) = some false)
    (is_BadSize_BadText : PySem.W.subIn K (.ref c_BadSize) (.ref c_BadText) = some false)
    (is_BadSize_ValueError : PySem.W.subIn K (.ref c_BadSize) (.type "ValueError") = some true)
    (eg_BadPoint : PySem.W.findIn K (.ref c_BadPoint) "__getattribute__" = some (some (.builtin "BaseException.__getattribute__")))
    (ek_BadPoint : PySem.W.findIn K (.ref c_BadPoint) "__getattr__" = some none)
    (ed_BadPoint : PySem.W.hasDictIn K c_BadPoint = true)
    (ea_BadPoint : PySem.W.findIn K (.ref c_BadPoint) "__class__" = some (some (.builtin "object.__class__")))
    (em_BadPoint : PySem.W.mroIn K c_BadPoint (.type "object") = some true)
    (is_BadPoint_BadSize : PySem.W.subIn K (.ref c_BadPoint) (.ref c_BadSize) = some false)
    (is_BadPoint_BadPoint : PySem.W.subIn K (.ref c_BadPoint) (.ref c_BadPoint) = some true)
    (is_BadPoint_Twice : PySem.W.subIn K (.ref c_BadPoint) (.ref c_Twice) = some false)
    (is_BadPoint_NoTie : PySem.W.subIn K (.ref c_BadPoint) (.ref c_NoTie) = some false)
    (is_BadPoint_TooMany : PySem.W.subIn K (.ref c_BadPoint) (.ref c_TooMany) = some false)
    (is_BadPoint_NoTree : PySem.W.subIn K (.ref c_BadPoint) (.ref c_NoTree) = some false)
    (is_BadPoint_BadTree : PySem.W.subIn K (.ref c_BadPoint) (.ref c_BadTree) = some false)
    (is_BadPoint_BadText : PySem.W.subIn K (.ref c_BadPoint) (.ref c_BadText) = some false)
    (is_BadPoint_ValueError : PySem.W.subIn K (.ref c_BadPoint) (.type "ValueError") = some true)
    (eg_Twice : PySem.W.findIn K (.ref c_Twice) "__getattribute__" = some (some (.builtin "BaseException.__getattribute__")))
    (ek_Twice : PySem.W.findIn K (.ref c_Twice) "__getattr__" = some none)
    (ed_Twice : PySem.W.hasDictIn K c_Twice = true)
    (ea_Twice : PySem.W.findIn K (.ref c_Twice) "__class__" = some (some (.builtin "object.__class__")))
    (em_Twice : PySem.W.mroIn K c_Twice (.type "object") = some true)
    (is_Twice_BadSize : PySem.W.subIn K (.ref c_Twice) (.ref c_BadSize) = some false)
    (is_Twice_BadPoint : PySem.W.subIn K (.ref c_Twice) (.ref c_BadPoint) = some false)
    (is_Twice_Twice : PySem.W.subIn K (.ref c_Twice) (.ref c_Twice) = some true)
    (is_Twice_NoTie : PySem.W.subIn K (.ref c_Twice) (.ref c_NoTie) = some false)
    (is_Twice_TooMany : PySem.W.subIn K (.ref c_Twice) (.ref c_TooMany) = some false)
    (is_Twice_NoTree : PySem.W.subIn K (.ref c_Twice) (.ref c_NoTree) = some false)
    (is_Twice_BadTree : PySem.W.subIn K (.ref c_Twice) (.ref c_BadTree) = some false)
    (is_Twice_BadText : PySem.W.subIn K (.ref c_Twice) (.ref c_BadText) = some false)
    (is_Twice_ValueError : PySem.W.subIn K (.ref c_Twice) (.type "ValueError") = some true)
    (eg_NoTie : PySem.W.findIn K (.ref c_NoTie) "__getattribute__" = some (some (.builtin "BaseException.__getattribute__")))
    (ek_NoTie : PySem.W.findIn K (.ref c_NoTie) "__getattr__" = some none)
    (ed_NoTie : PySem.W.hasDictIn K c_NoTie = true)
    (ea_NoTie : PySem.W.findIn K (.ref c_NoTie) "__class__" = some (some (.builtin "object.__class__")))
    (em_NoTie : PySem.W.mroIn K c_NoTie (.type "object") = some true)
    (is_NoTie_BadSize : PySem.W.subIn K (.ref c_NoTie) (.ref c_BadSize) = some false)
    (is_NoTie_BadPoint : PySem.W.subIn K (.ref c_NoTie) (.ref c_BadPoint) = some false)
    (is_NoTie_Twice : PySem.W.subIn K (.ref c_NoTie) (.ref c_Twice) = some false)
    (is_NoTie_NoTie : PySem.W.subIn K (.ref c_NoTie) (.ref c_NoTie) = some true)
    (is_NoTie_TooMany : PySem.W.subIn K (.ref c_NoTie) (.ref c_TooMany) = some false)
    (is_NoTie_NoTree : PySem.W.subIn K (.ref c_NoTie) (.ref c_NoTree) = some false)
    (is_NoTie_BadTree : PySem.W.subIn K (.ref c_NoTie) (.ref c_BadTree) = some false)
    (is_NoTie_BadText : PySem.W.subIn K (.ref c_NoTie) (.ref c_BadText) = some false)
    (is_NoTie_ValueError : PySem.W.subIn K (.ref c_NoTie) (.type "ValueError") = some true)
    (eg_TooMany : PySem.W.findIn K (.ref c_TooMany) "__getattribute__" = some (some (.builtin "BaseException.__getattribute__")))
    (ek_TooMany : PySem.W.findIn K (.ref c_TooMany) "__getattr__" = some none)
    (ed_TooMany : PySem.W.hasDictIn K c_TooMany = true)
    (ea_TooMany : PySem.W.findIn K (.ref c_TooMany) "__class__" = some (some (.builtin "object.__class__")))
    (em_TooMany : PySem.W.mroIn K c_TooMany (.type "object") = some true)
    (is_TooMany_BadSize : PySem.W.subIn K (.ref c_TooMany) (.ref c_BadSize) = some false)
    (is_TooMany_BadPoint : PySem.W.subIn K (.ref c_TooMany) (.ref c_BadPoint) = some false)
    (is_TooMany_Twice : PySem.W.subIn K (.ref c_TooMany) (.ref c_Twice) = some false)
    (is_TooMany_NoTie : PySem.W.subIn K (.ref c_TooMany) (.ref c_NoTie) = some false)
    (is_TooMany_TooMany : PySem.W.subIn K (.ref c_TooMany) (.ref c_TooMany) = some true)
    (is_TooMany_NoTree : PySem.W.subIn K (.ref c_TooMany) (.ref c_NoTree) = some false)
    (is_TooMany_BadTree : PySem.W.subIn K (.ref c_TooMany) (.ref c_BadTree) = some false)
    (is_TooMany_BadText : PySem.W.subIn K (.ref c_TooMany) (.ref c_BadText) = some false)
    (is_TooMany_ValueError : PySem.W.subIn K (.ref c_TooMany) (.type "ValueError") = some true)
    (nt_cls : K.lookup c_NoTree = some (PySem.excClassObj nt_nm nt_q c_NoTree nt_N nt_bs nt_bm true nt_sn nt_sub nt_ab nt_col nt_dd nt_0 nt_1 nt_2 nt_3 nt_5 "ValueError.__new__"))
    (nt_ve : PySem.HandSPX.refsVE nt_bm = true)
    (nt_sa : PySem.W.findIn K (.ref c_NoTree) "__setattr__" = some (some (.builtin "object.__setattr__")))
    (nt_ga : PySem.W.findIn K (.ref c_NoTree) "__getattribute__" = some (some (.builtin "BaseException.__getattribute__")))
    (nt_gg : PySem.W.findIn K (.ref c_NoTree) "__getattr__" = some none)
    (nt_no : PySem.W.findIn K (.ref c_NoTree) "row" = some none)
    (nt_cl : PySem.W.findIn K (.ref c_NoTree) "__class__" = some (some (.builtin "object.__class__")))
    (nt_ft : PySem.W.typeIn K (.ref a_NoTree_init) = some (.type "function"))
    (nt_kp : PySem.W.keepIn K (.ref c_NoTree) = true)
    (nt_sb : PySem.W.subIn K (.ref c_NoTree) (.type "BaseException") = some true)
    (nt_ty : PySem.W.typeIn K (.ref c_NoTree) = some (.type "type"))
    (nt_hd : PySem.W.hasDictIn K c_NoTree = true)
    (nt_ss : PySem.W.subIn K (.ref c_NoTree) (.ref c_NoTree) = some true)
    (nt_mr : PySem.W.mroIn K c_NoTree (.type "object") = some true)
    (su_NoTree_JoinError : PySem.W.subIn K (.ref c_NoTree) (.ref c_JoinError) = some true)
    (is_NoTree_BadSize : PySem.W.subIn K (.ref c_NoTree) (.ref c_BadSize) = some false)
    (is_NoTree_BadPoint : PySem.W.subIn K (.ref c_NoTree) (.ref c_BadPoint) = some false)
    (is_NoTree_Twice : PySem.W.subIn K (.ref c_NoTree) (.ref c_Twice) = some false)
    (is_NoTree_NoTie : PySem.W.subIn K (.ref c_NoTree) (.ref c_NoTie) = some false)
    (is_NoTree_TooMany : PySem.W.subIn K (.ref c_NoTree) (.ref c_TooMany) = some false)
    (is_NoTree_NoTree : PySem.W.subIn K (.ref c_NoTree) (.ref c_NoTree) = some true)
    (is_NoTree_BadTree : PySem.W.subIn K (.ref c_NoTree) (.ref c_BadTree) = some false)
    (is_NoTree_BadText : PySem.W.subIn K (.ref c_NoTree) (.ref c_BadText) = some false)
    (is_NoTree_ValueError : PySem.W.subIn K (.ref c_NoTree) (.type "ValueError") = some true)
    (ia_Web : PySem.W.findIn K (.ref c_Web) "__class__" = some (some (.builtin "object.__class__")))
    (im_Web : PySem.W.mroIn K c_Web (.type "object") = some true)
    (z_ValueError : PySem.W.nsIn K mainGlobals "ValueError" = some none)
    (z_all : PySem.W.nsIn K mainGlobals "all" = some none)
    (z_bool : PySem.W.nsIn K mainGlobals "bool" = some none)
    (z_int : PySem.W.nsIn K mainGlobals "int" = some none)
    (z_isinstance : PySem.W.nsIn K mainGlobals "isinstance" = some none)
    (z_len : PySem.W.nsIn K mainGlobals "len" = some none)
    (z_list : PySem.W.nsIn K mainGlobals "list" = some none)
    (z_max : PySem.W.nsIn K mainGlobals "max" = some none)
    (z_min : PySem.W.nsIn K mainGlobals "min" = some none)
    (z_range : PySem.W.nsIn K mainGlobals "range" = some none)
    (z_repr : PySem.W.nsIn K mainGlobals "repr" = some none)
    (z_set : PySem.W.nsIn K mainGlobals "set" = some none)
    (z_sorted : PySem.W.nsIn K mainGlobals "sorted" = some none)
    (z_tuple : PySem.W.nsIn K mainGlobals "tuple" = some none)
    (v_MOST_POINTS : PySem.W.nsIn K mainGlobals "MOST_POINTS" = some (some (.int (30) tk_MOST_POINTS)))
    (v_SIDE : PySem.W.nsIn K mainGlobals "SIDE" = some (some (.str "side" tk_SIDE)))
    (v_JOIN : PySem.W.nsIn K mainGlobals "JOIN" = some (some (.str "join" tk_JOIN))) :
    ∃ fd : FuncData, (∀ (s : Shared) (v : Value), BindsTo s fd ⟨[v], []⟩ [("_law_script", v)]) ∧ ∀ base : Heap, K.In base → base.Ns mainGlobals mg → FnG l.prog w K mg base 68 fa fd ["_law_script"] (spLaw K) := by
  have e := hfa.symm.trans (PySem.W.mg_of X G f_law)
  obtain rfl : a_law = fa := by cases e; rfl
  have T : Txt K mg { a_NoTree_init := a_NoTree_init, d_NoTree_init := PySem.W.fnOf "__init__" "NoTree.__init__" (defArgs s_NoTree_init) (defBody s_NoTree_init) (defScope s_NoTree_init) .none .none dc_NoTree_init pm_NoTree_init an_NoTree_init cd_NoTree_init ct_NoTree_init, a_whole_within := a_whole_within, d_whole_within := PySem.W.fnOf "whole_within" "whole_within" (defArgs s_whole_within) (defBody s_whole_within) (defScope s_whole_within) .none kV_whole_within dc_whole_within pm_whole_within an_whole_within cd_whole_within ct_whole_within, a_unlike_points := a_unlike_points, d_unlike_points := PySem.W.fnOf "unlike_points" "unlike_points" (defArgs s_unlike_points) (defBody s_unlike_points) (defScope s_unlike_points) .none kV_unlike_points dc_unlike_points pm_unlike_points an_unlike_points cd_unlike_points ct_unlike_points, a_pairs := a_pairs, d_pairs := PySem.W.fnOf "pairs" "pairs" (defArgs s_pairs) (defBody s_pairs) (defScope s_pairs) .none kV_pairs dc_pairs pm_pairs an_pairs cd_pairs ct_pairs, a_Web_init := a_Web_init, d_Web_init := PySem.W.fnOf "__init__" "Web.__init__" (defArgs s_Web_init) (defBody s_Web_init) (defScope s_Web_init) .none kV_Web_init dc_Web_init pm_Web_init an_Web_init cd_Web_init ct_Web_init, a_Web_many := a_Web_many, d_Web_many := PySem.W.fnOf "many" "Web.many" (defArgs s_Web_many) (defBody s_Web_many) (defScope s_Web_many) .none kV_Web_many dc_Web_many pm_Web_many an_Web_many cd_Web_many ct_Web_many, a_Web_has := a_Web_has, d_Web_has := PySem.W.fnOf "has" "Web.has" (defArgs s_Web_has) (defBody s_Web_has) (defScope s_Web_has) .none kV_Web_has dc_Web_has pm_Web_has an_Web_has cd_Web_has ct_Web_has, a_Web_put := a_Web_put, d_Web_put := PySem.W.fnOf "put" "Web.put" (defArgs s_Web_put) (defBody s_Web_put) (defScope s_Web_put) .none kV_Web_put dc_Web_put pm_Web_put an_Web_put cd_Web_put ct_Web_put, a_Web_take := a_Web_take, d_Web_take := PySem.W.fnOf "take" "Web.take" (defArgs s_Web_take) (defBody s_Web_take) (defScope s_Web_take) .none kV_Web_take dc_Web_take pm_Web_take an_Web_take cd_Web_take ct_Web_take, a_Web_grow := a_Web_grow, d_Web_grow := PySem.W.fnOf "grow" "Web.grow" (defArgs s_Web_grow) (defBody s_Web_grow) (defScope s_Web_grow) .none kV_Web_grow dc_Web_grow pm_Web_grow an_Web_grow cd_Web_grow ct_Web_grow, a_Web_beside := a_Web_beside, d_Web_beside := PySem.W.fnOf "beside" "Web.beside" (defArgs s_Web_beside) (defBody s_Web_beside) (defScope s_Web_beside) .none kV_Web_beside dc_Web_beside pm_Web_beside an_Web_beside cd_Web_beside ct_Web_beside, a_Web_ties := a_Web_ties, d_Web_ties := PySem.W.fnOf "ties" "Web.ties" (defArgs s_Web_ties) (defBody s_Web_ties) (defScope s_Web_ties) .none kV_Web_ties dc_Web_ties pm_Web_ties an_Web_ties cd_Web_ties ct_Web_ties, a_Web_need_point := a_Web_need_point, d_Web_need_point := PySem.W.fnOf "_need_point" "Web._need_point" (defArgs s_Web_need_point) (defBody s_Web_need_point) (defScope s_Web_need_point) .none kV_Web_need_point dc_Web_need_point pm_Web_need_point an_Web_need_point cd_Web_need_point ct_Web_need_point, a_part := a_part, d_part := PySem.W.fnOf "part" "part" (defArgs s_part) (defBody s_part) (defScope s_part) .none kV_part dc_part pm_part an_part cd_part ct_part, a_row_in := a_row_in, d_row_in := PySem.W.fnOf "row_in" "row_in" (defArgs s_row_in) (defBody s_row_in) (defScope s_row_in) .none kV_row_in dc_row_in pm_row_in an_row_in cd_row_in ct_row_in, a_tree_of := a_tree_of, d_tree_of := PySem.W.fnOf "tree_of" "tree_of" (defArgs s_tree_of) (defBody s_tree_of) (defScope s_tree_of) .none kV_tree_of dc_tree_of pm_tree_of an_tree_of cd_tree_of ct_tree_of, a_near_each := a_near_each, d_near_each := PySem.W.fnOf "_near_each" "_near_each" (defArgs s_near_each) (defBody s_near_each) (defScope s_near_each) .none kV_near_each dc_near_each pm_near_each an_near_each cd_near_each ct_near_each, a_told_of := a_told_of, d_told_of := PySem.W.fnOf "_told_of" "_told_of" (defArgs s_told_of) (defBody s_told_of) (defScope s_told_of) .none kV_told_of dc_told_of pm_told_of an_told_of cd_told_of ct_told_of, a_groups := a_groups, d_groups := PySem.W.fnOf "_groups" "_groups" (defArgs s_groups) (defBody s_groups) (defScope s_groups) .none kV_groups dc_groups pm_groups an_groups cd_groups ct_groups, a_group_of := a_group_of, d_group_of := PySem.W.fnOf "_group_of" "_group_of" (defArgs s_group_of) (defBody s_group_of) (defScope s_group_of) .none kV_group_of dc_group_of pm_group_of an_group_of cd_group_of ct_group_of, a_Kept_init := a_Kept_init, d_Kept_init := PySem.W.fnOf "__init__" "Kept.__init__" (defArgs s_Kept_init) (defBody s_Kept_init) (defScope s_Kept_init) .none kV_Kept_init dc_Kept_init pm_Kept_init an_Kept_init cd_Kept_init ct_Kept_init, a_Kept_put := a_Kept_put, d_Kept_put := PySem.W.fnOf "put" "Kept.put" (defArgs s_Kept_put) (defBody s_Kept_put) (defScope s_Kept_put) .none kV_Kept_put dc_Kept_put pm_Kept_put an_Kept_put cd_Kept_put ct_Kept_put, a_Kept_take := a_Kept_take, d_Kept_take := PySem.W.fnOf "take" "Kept.take" (defArgs s_Kept_take) (defBody s_Kept_take) (defScope s_Kept_take) .none kV_Kept_take dc_Kept_take pm_Kept_take an_Kept_take cd_Kept_take ct_Kept_take, a_Kept_grow := a_Kept_grow, d_Kept_grow := PySem.W.fnOf "grow" "Kept.grow" (defArgs s_Kept_grow) (defBody s_Kept_grow) (defScope s_Kept_grow) .none kV_Kept_grow dc_Kept_grow pm_Kept_grow an_Kept_grow cd_Kept_grow ct_Kept_grow, a_Kept_tree := a_Kept_tree, d_Kept_tree := PySem.W.fnOf "tree" "Kept.tree" (defArgs s_Kept_tree) (defBody s_Kept_tree) (defScope s_Kept_tree) .none kV_Kept_tree dc_Kept_tree pm_Kept_tree an_Kept_tree cd_Kept_tree ct_Kept_tree, a_Kept_web := a_Kept_web, d_Kept_web := PySem.W.fnOf "web" "Kept.web" (defArgs s_Kept_web) (defBody s_Kept_web) (defScope s_Kept_web) .none kV_Kept_web dc_Kept_web pm_Kept_web an_Kept_web cd_Kept_web ct_Kept_web, a_Kept_become := a_Kept_become, d_Kept_become := PySem.W.fnOf "_become" "Kept._become" (defArgs s_Kept_become) (defBody s_Kept_become) (defScope s_Kept_become) .none kV_Kept_become dc_Kept_become pm_Kept_become an_Kept_become cd_Kept_become ct_Kept_become, a_l_mixed := a_l_mixed, d_l_mixed := PySem.W.fnOf "_law_mixed" "_law_mixed" (defArgs s_l_mixed) (defBody s_l_mixed) (defScope s_l_mixed) .none kV_l_mixed dc_l_mixed pm_l_mixed an_l_mixed cd_l_mixed ct_l_mixed, a_l_number := a_l_number, d_l_number := PySem.W.fnOf "_law_number" "_law_number" (defArgs s_l_number) (defBody s_l_number) (defScope s_l_number) .none kV_l_number dc_l_number pm_l_number an_l_number cd_l_number ct_l_number, a_l_kind := a_l_kind, d_l_kind := PySem.W.fnOf "_law_kind" "_law_kind" (defArgs s_l_kind) (defBody s_l_kind) (defScope s_l_kind) .none kV_l_kind dc_l_kind pm_l_kind an_l_kind cd_l_kind ct_l_kind, a_l_whole := a_l_whole, d_l_whole := PySem.W.fnOf "_law_whole" "_law_whole" (defArgs s_l_whole) (defBody s_l_whole) (defScope s_l_whole) .none kV_l_whole dc_l_whole pm_l_whole an_l_whole cd_l_whole ct_l_whole, a_l_least := a_l_least, d_l_least := PySem.W.fnOf "_law_least" "_law_least" (defArgs s_l_least) (defBody s_l_least) (defScope s_l_least) .none kV_l_least dc_l_least pm_l_least an_l_least cd_l_least ct_l_least, a_l_points := a_l_points, d_l_points := PySem.W.fnOf "_law_points" "_law_points" (defArgs s_l_points) (defBody s_l_points) (defScope s_l_points) .none kV_l_points dc_l_points pm_l_points an_l_points cd_l_points ct_l_points, a_l_ties := a_l_ties, d_l_ties := PySem.W.fnOf "_law_ties" "_law_ties" (defArgs s_l_ties) (defBody s_l_ties) (defScope s_l_ties) .none kV_l_ties dc_l_ties pm_l_ties an_l_ties cd_l_ties ct_l_ties, a_l_is_tree := a_l_is_tree, d_l_is_tree := PySem.W.fnOf "_law_is_tree" "_law_is_tree" (defArgs s_l_is_tree) (defBody s_l_is_tree) (defScope s_l_is_tree) .none kV_l_is_tree dc_l_is_tree pm_l_is_tree an_l_is_tree cd_l_is_tree ct_l_is_tree, a_l_form := a_l_form, d_l_form := PySem.W.fnOf "_law_form" "_law_form" (defArgs s_l_form) (defBody s_l_form) (defScope s_l_form) .none kV_l_form dc_l_form pm_l_form an_l_form cd_l_form ct_l_form, a_l_is_row := a_l_is_row, d_l_is_row := PySem.W.fnOf "_law_is_row" "_law_is_row" (defArgs s_l_is_row) (defBody s_l_is_row) (defScope s_l_is_row) .none kV_l_is_row dc_l_is_row pm_l_is_row an_l_is_row cd_l_is_row ct_l_is_row, a_l_near := a_l_near, d_l_near := PySem.W.fnOf "_law_near" "_law_near" (defArgs s_l_near) (defBody s_l_near) (defScope s_l_near) .none kV_l_near dc_l_near pm_l_near an_l_near cd_l_near ct_l_near, a_l_has_row := a_l_has_row, d_l_has_row := PySem.W.fnOf "_law_has_row" "_law_has_row" (defArgs s_l_has_row) (defBody s_l_has_row) (defScope s_l_has_row) .none kV_l_has_row dc_l_has_row pm_l_has_row an_l_has_row cd_l_has_row ct_l_has_row, a_l_is_point := a_l_is_point, d_l_is_point := PySem.W.fnOf "_law_is_point" "_law_is_point" (defArgs s_l_is_point) (defBody s_l_is_point) (defScope s_l_is_point) .none kV_l_is_point dc_l_is_point pm_l_is_point an_l_is_point cd_l_is_point ct_l_is_point, a_l_due := a_l_due, d_l_due := PySem.W.fnOf "_law_due" "_law_due" (defArgs s_l_due) (defBody s_l_due) (defScope s_l_due) .none kV_l_due dc_l_due pm_l_due an_l_due cd_l_due ct_l_due, a_l_said := a_l_said, d_l_said := PySem.W.fnOf "_law_said" "_law_said" (defArgs s_l_said) (defBody s_l_said) (defScope s_l_said) .none kV_l_said dc_l_said pm_l_said an_l_said cd_l_said ct_l_said, a_l_done := a_l_done, d_l_done := PySem.W.fnOf "_law_done" "_law_done" (defArgs s_l_done) (defBody s_l_done) (defScope s_l_done) .none kV_l_done dc_l_done pm_l_done an_l_done cd_l_done ct_l_done, a_l_right := a_l_right, d_l_right := PySem.W.fnOf "_law_right" "_law_right" (defArgs s_l_right) (defBody s_l_right) (defScope s_l_right) .none kV_l_right dc_l_right pm_l_right an_l_right cd_l_right ct_l_right, a_l_deed := a_l_deed, d_l_deed := PySem.W.fnOf "_law_deed" "_law_deed" (defArgs s_l_deed) (defBody s_l_deed) (defScope s_l_deed) .none kV_l_deed dc_l_deed pm_l_deed an_l_deed cd_l_deed ct_l_deed, a_l_size_refused := a_l_size_refused, d_l_size_refused := PySem.W.fnOf "_law_size_refused" "_law_size_refused" (defArgs s_l_size_refused) (defBody s_l_size_refused) (defScope s_l_size_refused) .none kV_l_size_refused dc_l_size_refused pm_l_size_refused an_l_size_refused cd_l_size_refused ct_l_size_refused, a_law := a_law, d_law := PySem.W.fnOf "law" "law" (defArgs s_law) (defBody s_law) (defScope s_law) .none kV_law dc_law pm_law an_law cd_law ct_law, c_BadPoint := c_BadPoint, c_BadSize := c_BadSize, c_BadText := c_BadText, c_BadTree := c_BadTree, c_JoinError := c_JoinError, c_Kept := c_Kept, c_NoTie := c_NoTie, c_NoTree := c_NoTree, c_TooMany := c_TooMany, c_Twice := c_Twice, c_Web := c_Web } := {
    b_NoTree_init := (fun_mk (st := s_NoTree_init) l_NoTree_init c_NoTree_init k_NoTree_init).binds (ps := ["self", "row"]) fun _ _ _ _ _ _ us hl => match us, hl with | [_, _], _ => rfl
    F_NoTree_init := fun_mk (st := s_NoTree_init) l_NoTree_init c_NoTree_init k_NoTree_init
    g_whole_within := PySem.W.mg_of X G f_whole_within
    k_whole_within := k_whole_within
    b_whole_within := (fun_mk (st := s_whole_within) l_whole_within c_whole_within k_whole_within).binds (ps := ["number", "least", "most"]) fun _ _ _ _ _ _ us hl => match us, hl with | [_, _, _], _ => rfl
    F_whole_within := fun_mk (st := s_whole_within) l_whole_within c_whole_within k_whole_within
    g_unlike_points := PySem.W.mg_of X G f_unlike_points
    k_unlike_points := k_unlike_points
    b_unlike_points := (fun_mk (st := s_unlike_points) l_unlike_points c_unlike_points k_unlike_points).binds (ps := ["points", "many"]) fun _ _ _ _ _ _ us hl => match us, hl with | [_, _], _ => rfl
    F_unlike_points := fun_mk (st := s_unlike_points) l_unlike_points c_unlike_points k_unlike_points
    g_pairs := PySem.W.mg_of X G f_pairs
    k_pairs := k_pairs
    b_pairs := (fun_mk (st := s_pairs) l_pairs c_pairs k_pairs).binds (ps := ["many"]) fun _ _ _ _ _ _ us hl => match us, hl with | [_], _ => rfl
    F_pairs := fun_mk (st := s_pairs) l_pairs c_pairs k_pairs
    b_Web_init := (fun_mk (st := s_Web_init) l_Web_init c_Web_init k_Web_init).binds (ps := ["self", "many"]) fun _ _ _ _ _ _ us hl => match us, hl with | [_, _], _ => rfl
    F_Web_init := fun_mk (st := s_Web_init) l_Web_init c_Web_init k_Web_init
    m_Web_many := ⟨f_Web_many, i_Web_many, k_Web_many⟩
    b_Web_many := (fun_mk (st := s_Web_many) l_Web_many c_Web_many k_Web_many).binds (ps := ["self"]) fun _ _ _ _ _ _ us hl => match us, hl with | [_], _ => rfl
    F_Web_many := fun_mk (st := s_Web_many) l_Web_many c_Web_many k_Web_many
    m_Web_has := ⟨f_Web_has, i_Web_has, k_Web_has⟩
    b_Web_has := (fun_mk (st := s_Web_has) l_Web_has c_Web_has k_Web_has).binds (ps := ["self", "one", "other"]) fun _ _ _ _ _ _ us hl => match us, hl with | [_, _, _], _ => rfl
    F_Web_has := fun_mk (st := s_Web_has) l_Web_has c_Web_has k_Web_has
    m_Web_put := ⟨f_Web_put, i_Web_put, k_Web_put⟩
    b_Web_put := (fun_mk (st := s_Web_put) l_Web_put c_Web_put k_Web_put).binds (ps := ["self", "one", "other"]) fun _ _ _ _ _ _ us hl => match us, hl with | [_, _, _], _ => rfl
    F_Web_put := fun_mk (st := s_Web_put) l_Web_put c_Web_put k_Web_put
    m_Web_take := ⟨f_Web_take, i_Web_take, k_Web_take⟩
    b_Web_take := (fun_mk (st := s_Web_take) l_Web_take c_Web_take k_Web_take).binds (ps := ["self", "one", "other"]) fun _ _ _ _ _ _ us hl => match us, hl with | [_, _, _], _ => rfl
    F_Web_take := fun_mk (st := s_Web_take) l_Web_take c_Web_take k_Web_take
    m_Web_grow := ⟨f_Web_grow, i_Web_grow, k_Web_grow⟩
    b_Web_grow := (fun_mk (st := s_Web_grow) l_Web_grow c_Web_grow k_Web_grow).binds (ps := ["self"]) fun _ _ _ _ _ _ us hl => match us, hl with | [_], _ => rfl
    F_Web_grow := fun_mk (st := s_Web_grow) l_Web_grow c_Web_grow k_Web_grow
    m_Web_beside := ⟨f_Web_beside, i_Web_beside, k_Web_beside⟩
    b_Web_beside := (fun_mk (st := s_Web_beside) l_Web_beside c_Web_beside k_Web_beside).binds (ps := ["self", "point"]) fun _ _ _ _ _ _ us hl => match us, hl with | [_, _], _ => rfl
    F_Web_beside := fun_mk (st := s_Web_beside) l_Web_beside c_Web_beside k_Web_beside
    m_Web_ties := ⟨f_Web_ties, i_Web_ties, k_Web_ties⟩
    b_Web_ties := (fun_mk (st := s_Web_ties) l_Web_ties c_Web_ties k_Web_ties).binds (ps := ["self"]) fun _ _ _ _ _ _ us hl => match us, hl with | [_], _ => rfl
    F_Web_ties := fun_mk (st := s_Web_ties) l_Web_ties c_Web_ties k_Web_ties
    m_Web_need_point := ⟨f_Web_need_point, i_Web_need_point, k_Web_need_point⟩
    b_Web_need_point := (fun_mk (st := s_Web_need_point) l_Web_need_point c_Web_need_point k_Web_need_point).binds (ps := ["self", "point"]) fun _ _ _ _ _ _ us hl => match us, hl with | [_, _], _ => rfl
    F_Web_need_point := fun_mk (st := s_Web_need_point) l_Web_need_point c_Web_need_point k_Web_need_point
    g_part := PySem.W.mg_of X G f_part
    k_part := k_part
    b_part := (fun_mk (st := s_part) l_part c_part k_part).binds (ps := ["web", "points"]) fun _ _ _ _ _ _ us hl => match us, hl with | [_, _], _ => rfl
    F_part := fun_mk (st := s_part) l_part c_part k_part
    g_row_in := PySem.W.mg_of X G f_row_in
    k_row_in := k_row_in
    b_row_in := (fun_mk (st := s_row_in) l_row_in c_row_in k_row_in).binds (ps := ["web"]) fun _ _ _ _ _ _ us hl => match us, hl with | [_], _ => rfl
    F_row_in := fun_mk (st := s_row_in) l_row_in c_row_in k_row_in
    g_tree_of := PySem.W.mg_of X G f_tree_of
    k_tree_of := k_tree_of
    b_tree_of := (fun_mk (st := s_tree_of) l_tree_of c_tree_of k_tree_of).binds (ps := ["web"]) fun _ _ _ _ _ _ us hl => match us, hl with | [_], _ => rfl
    F_tree_of := fun_mk (st := s_tree_of) l_tree_of c_tree_of k_tree_of
    g_near_each := PySem.W.mg_of X G f_near_each
    k_near_each := k_near_each
    b_near_each := (fun_mk (st := s_near_each) l_near_each c_near_each k_near_each).binds (ps := ["web"]) fun _ _ _ _ _ _ us hl => match us, hl with | [_], _ => rfl
    F_near_each := fun_mk (st := s_near_each) l_near_each c_near_each k_near_each
    g_told_of := PySem.W.mg_of X G f_told_of
    k_told_of := k_told_of
    b_told_of := (fun_mk (st := s_told_of) l_told_of c_told_of k_told_of).binds (ps := ["near", "points"]) fun _ _ _ _ _ _ us hl => match us, hl with | [_, _], _ => rfl
    F_told_of := fun_mk (st := s_told_of) l_told_of c_told_of k_told_of
    g_groups := PySem.W.mg_of X G f_groups
    k_groups := k_groups
    b_groups := (fun_mk (st := s_groups) l_groups c_groups k_groups).binds (ps := ["near", "points", "tied"]) fun _ _ _ _ _ _ us hl => match us, hl with | [_, _, _], _ => rfl
    F_groups := fun_mk (st := s_groups) l_groups c_groups k_groups
    g_group_of := PySem.W.mg_of X G f_group_of
    k_group_of := k_group_of
    b_group_of := (fun_mk (st := s_group_of) l_group_of c_group_of k_group_of).binds (ps := ["near", "points", "tied"]) fun _ _ _ _ _ _ us hl => match us, hl with | [_, _, _], _ => rfl
    F_group_of := fun_mk (st := s_group_of) l_group_of c_group_of k_group_of
    b_Kept_init := (fun_mk (st := s_Kept_init) l_Kept_init c_Kept_init k_Kept_init).binds (ps := ["self", "many"]) fun _ _ _ _ _ _ us hl => match us, hl with | [_, _], _ => rfl
    F_Kept_init := fun_mk (st := s_Kept_init) l_Kept_init c_Kept_init k_Kept_init
    m_Kept_put := ⟨f_Kept_put, i_Kept_put, k_Kept_put⟩
    b_Kept_put := (fun_mk (st := s_Kept_put) l_Kept_put c_Kept_put k_Kept_put).binds (ps := ["self", "one", "other"]) fun _ _ _ _ _ _ us hl => match us, hl with | [_, _, _], _ => rfl
    F_Kept_put := fun_mk (st := s_Kept_put) l_Kept_put c_Kept_put k_Kept_put
    m_Kept_take := ⟨f_Kept_take, i_Kept_take, k_Kept_take⟩
    b_Kept_take := (fun_mk (st := s_Kept_take) l_Kept_take c_Kept_take k_Kept_take).binds (ps := ["self", "one", "other"]) fun _ _ _ _ _ _ us hl => match us, hl with | [_, _, _], _ => rfl
    F_Kept_take := fun_mk (st := s_Kept_take) l_Kept_take c_Kept_take k_Kept_take
    m_Kept_grow := ⟨f_Kept_grow, i_Kept_grow, k_Kept_grow⟩
    b_Kept_grow := (fun_mk (st := s_Kept_grow) l_Kept_grow c_Kept_grow k_Kept_grow).binds (ps := ["self", "points"]) fun _ _ _ _ _ _ us hl => match us, hl with | [_, _], _ => rfl
    F_Kept_grow := fun_mk (st := s_Kept_grow) l_Kept_grow c_Kept_grow k_Kept_grow
    m_Kept_tree := ⟨f_Kept_tree, i_Kept_tree, k_Kept_tree⟩
    b_Kept_tree := (fun_mk (st := s_Kept_tree) l_Kept_tree c_Kept_tree k_Kept_tree).binds (ps := ["self"]) fun _ _ _ _ _ _ us hl => match us, hl with | [_], _ => rfl
    F_Kept_tree := fun_mk (st := s_Kept_tree) l_Kept_tree c_Kept_tree k_Kept_tree
    m_Kept_web := ⟨f_Kept_web, i_Kept_web, k_Kept_web⟩
    b_Kept_web := (fun_mk (st := s_Kept_web) l_Kept_web c_Kept_web k_Kept_web).binds (ps := ["self"]) fun _ _ _ _ _ _ us hl => match us, hl with | [_], _ => rfl
    F_Kept_web := fun_mk (st := s_Kept_web) l_Kept_web c_Kept_web k_Kept_web
    m_Kept_become := ⟨f_Kept_become, i_Kept_become, k_Kept_become⟩
    b_Kept_become := (fun_mk (st := s_Kept_become) l_Kept_become c_Kept_become k_Kept_become).binds (ps := ["self", "would_be"]) fun _ _ _ _ _ _ us hl => match us, hl with | [_, _], _ => rfl
    F_Kept_become := fun_mk (st := s_Kept_become) l_Kept_become c_Kept_become k_Kept_become
    g_l_mixed := PySem.W.mg_of X G f_l_mixed
    k_l_mixed := k_l_mixed
    b_l_mixed := (fun_mk (st := s_l_mixed) l_l_mixed c_l_mixed k_l_mixed).binds (ps := ["_law_cell", "_law_k"]) fun _ _ _ _ _ _ us hl => match us, hl with | [_, _], _ => rfl
    F_l_mixed := fun_mk (st := s_l_mixed) l_l_mixed c_l_mixed k_l_mixed
    g_l_number := PySem.W.mg_of X G f_l_number
    k_l_number := k_l_number
    b_l_number := (fun_mk (st := s_l_number) l_l_number c_l_number k_l_number).binds (ps := ["_law_script", "_law_k"]) fun _ _ _ _ _ _ us hl => match us, hl with | [_, _], _ => rfl
    F_l_number := fun_mk (st := s_l_number) l_l_number c_l_number k_l_number
    g_l_kind := PySem.W.mg_of X G f_l_kind
    k_l_kind := k_l_kind
    b_l_kind := (fun_mk (st := s_l_kind) l_l_kind c_l_kind k_l_kind).binds (ps := ["_law_e"]) fun _ _ _ _ _ _ us hl => match us, hl with | [_], _ => rfl
    F_l_kind := fun_mk (st := s_l_kind) l_l_kind c_l_kind k_l_kind
    g_l_whole := PySem.W.mg_of X G f_l_whole
    k_l_whole := k_l_whole
    b_l_whole := (fun_mk (st := s_l_whole) l_l_whole c_l_whole k_l_whole).binds (ps := ["_law_thing"]) fun _ _ _ _ _ _ us hl => match us, hl with | [_], _ => rfl
    F_l_whole := fun_mk (st := s_l_whole) l_l_whole c_l_whole k_l_whole
    g_l_least := PySem.W.mg_of X G f_l_least
    k_l_least := k_l_least
    b_l_least := (fun_mk (st := s_l_least) l_l_least c_l_least k_l_least).binds (ps := ["_law_told"]) fun _ _ _ _ _ _ us hl => match us, hl with | [_], _ => rfl
    F_l_least := fun_mk (st := s_l_least) l_l_least c_l_least k_l_least
    g_l_points := PySem.W.mg_of X G f_l_points
    k_l_points := k_l_points
    b_l_points := (fun_mk (st := s_l_points) l_l_points c_l_points k_l_points).binds (ps := ["_law_told"]) fun _ _ _ _ _ _ us hl => match us, hl with | [_], _ => rfl
    F_l_points := fun_mk (st := s_l_points) l_l_points c_l_points k_l_points
    g_l_ties := PySem.W.mg_of X G f_l_ties
    k_l_ties := k_l_ties
    b_l_ties := (fun_mk (st := s_l_ties) l_l_ties c_l_ties k_l_ties).binds (ps := ["_law_told"]) fun _ _ _ _ _ _ us hl => match us, hl with | [_], _ => rfl
    F_l_ties := fun_mk (st := s_l_ties) l_l_ties c_l_ties k_l_ties
    g_l_is_tree := PySem.W.mg_of X G f_l_is_tree
    k_l_is_tree := k_l_is_tree
    b_l_is_tree := (fun_mk (st := s_l_is_tree) l_l_is_tree c_l_is_tree k_l_is_tree).binds (ps := ["_law_told", "_law_many", "_law_ties_here"]) fun _ _ _ _ _ _ us hl => match us, hl with | [_, _, _], _ => rfl
    F_l_is_tree := fun_mk (st := s_l_is_tree) l_l_is_tree c_l_is_tree k_l_is_tree
    g_l_form := PySem.W.mg_of X G f_l_form
    k_l_form := k_l_form
    b_l_form := (fun_mk (st := s_l_form) l_l_form c_l_form k_l_form).binds (ps := ["_law_told"]) fun _ _ _ _ _ _ us hl => match us, hl with | [_], _ => rfl
    F_l_form := fun_mk (st := s_l_form) l_l_form c_l_form k_l_form
    g_l_is_row := PySem.W.mg_of X G f_l_is_row
    k_l_is_row := k_l_is_row
    b_l_is_row := (fun_mk (st := s_l_is_row) l_l_is_row c_l_is_row k_l_is_row).binds (ps := ["_law_row", "_law_many", "_law_ties_here"]) fun _ _ _ _ _ _ us hl => match us, hl with | [_, _, _], _ => rfl
    F_l_is_row := fun_mk (st := s_l_is_row) l_l_is_row c_l_is_row k_l_is_row
    g_l_near := PySem.W.mg_of X G f_l_near
    k_l_near := k_l_near
    b_l_near := (fun_mk (st := s_l_near) l_l_near c_l_near k_l_near).binds (ps := ["_law_many", "_law_ties_here"]) fun _ _ _ _ _ _ us hl => match us, hl with | [_, _], _ => rfl
    F_l_near := fun_mk (st := s_l_near) l_l_near c_l_near k_l_near
    g_l_has_row := PySem.W.mg_of X G f_l_has_row
    k_l_has_row := k_l_has_row
    b_l_has_row := (fun_mk (st := s_l_has_row) l_l_has_row c_l_has_row k_l_has_row).binds (ps := ["_law_many", "_law_ties_here"]) fun _ _ _ _ _ _ us hl => match us, hl with | [_, _], _ => rfl
    F_l_has_row := fun_mk (st := s_l_has_row) l_l_has_row c_l_has_row k_l_has_row
    g_l_is_point := PySem.W.mg_of X G f_l_is_point
    k_l_is_point := k_l_is_point
    b_l_is_point := (fun_mk (st := s_l_is_point) l_l_is_point c_l_is_point k_l_is_point).binds (ps := ["_law_own", "_law_thing"]) fun _ _ _ _ _ _ us hl => match us, hl with | [_, _], _ => rfl
    F_l_is_point := fun_mk (st := s_l_is_point) l_l_is_point c_l_is_point k_l_is_point
    g_l_due := PySem.W.mg_of X G f_l_due
    k_l_due := k_l_due
    b_l_due := (fun_mk (st := s_l_due) l_l_due c_l_due k_l_due).binds (ps := ["_law_own", "_law_deed_here"]) fun _ _ _ _ _ _ us hl => match us, hl with | [_, _], _ => rfl
    F_l_due := fun_mk (st := s_l_due) l_l_due c_l_due k_l_due
    g_l_said := PySem.W.mg_of X G f_l_said
    k_l_said := k_l_said
    b_l_said := (fun_mk (st := s_l_said) l_l_said c_l_said k_l_said).binds (ps := ["_law_kept", "_law_deed_here"]) fun _ _ _ _ _ _ us hl => match us, hl with | [_, _], _ => rfl
    F_l_said := fun_mk (st := s_l_said) l_l_said c_l_said k_l_said
    g_l_done := PySem.W.mg_of X G f_l_done
    k_l_done := k_l_done
    b_l_done := (fun_mk (st := s_l_done) l_l_done c_l_done k_l_done).binds (ps := ["_law_kept", "_law_own", "_law_deed_here"]) fun _ _ _ _ _ _ us hl => match us, hl with | [_, _, _], _ => rfl
    F_l_done := fun_mk (st := s_l_done) l_l_done c_l_done k_l_done
    g_l_right := PySem.W.mg_of X G f_l_right
    k_l_right := k_l_right
    b_l_right := (fun_mk (st := s_l_right) l_l_right c_l_right k_l_right).binds (ps := ["_law_kept", "_law_own"]) fun _ _ _ _ _ _ us hl => match us, hl with | [_, _], _ => rfl
    F_l_right := fun_mk (st := s_l_right) l_l_right c_l_right k_l_right
    g_l_deed := PySem.W.mg_of X G f_l_deed
    k_l_deed := k_l_deed
    b_l_deed := (fun_mk (st := s_l_deed) l_l_deed c_l_deed k_l_deed).binds (ps := ["_law_own", "_law_cell", "_law_more"]) fun _ _ _ _ _ _ us hl => match us, hl with | [_, _, _], _ => rfl
    F_l_deed := fun_mk (st := s_l_deed) l_l_deed c_l_deed k_l_deed
    g_l_size_refused := PySem.W.mg_of X G f_l_size_refused
    k_l_size_refused := k_l_size_refused
    b_l_size_refused := (fun_mk (st := s_l_size_refused) l_l_size_refused c_l_size_refused k_l_size_refused).binds (ps := ["_law_thing"]) fun _ _ _ _ _ _ us hl => match us, hl with | [_], _ => rfl
    F_l_size_refused := fun_mk (st := s_l_size_refused) l_l_size_refused c_l_size_refused k_l_size_refused
    g_law := PySem.W.mg_of X G f_law
    k_law := k_law
    b_law := (fun_mk (st := s_law) l_law c_law k_law).binds (ps := ["_law_script"]) fun _ _ _ _ _ _ us hl => match us, hl with | [_], _ => rfl
    F_law := fun_mk (st := s_law) l_law c_law k_law
    cl_Kept := ⟨pg_Kept, hd_Kept, po_Kept, sa_Kept⟩
    mk_Kept := ⟨mm_Kept, f_Kept_init, i_Kept_init, kc_Kept⟩
    n_Kept__web := n_Kept__web
    cl_Web := ⟨pg_Web, hd_Web, po_Web, sa_Web⟩
    mk_Web := ⟨mm_Web, f_Web_init, i_Web_init, kc_Web⟩
    n_Web__near := n_Web__near
    gBadPoint := PySem.W.mg_of X G h_c_BadPoint
    gBadSize := PySem.W.mg_of X G h_c_BadSize
    gBadText := PySem.W.mg_of X G h_c_BadText
    gBadTree := PySem.W.mg_of X G h_c_BadTree
    gJoinError := PySem.W.mg_of X G h_c_JoinError
    gKept := PySem.W.mg_of X G h_c_Kept
    gNoTie := PySem.W.mg_of X G h_c_NoTie
    gNoTree := PySem.W.mg_of X G h_c_NoTree
    gTooMany := PySem.W.mg_of X G h_c_TooMany
    gTwice := PySem.W.mg_of X G h_c_Twice
    gWeb := PySem.W.mg_of X G h_c_Web
    xBadSize := xBadSize
    kBadSize := kBadSize
    bBadSize := bBadSize
    tBadSize := tBadSize
    xBadPoint := xBadPoint
    kBadPoint := kBadPoint
    bBadPoint := bBadPoint
    tBadPoint := tBadPoint
    xTwice := xTwice
    kTwice := kTwice
    bTwice := bTwice
    tTwice := tTwice
    xNoTie := xNoTie
    kNoTie := kNoTie
    bNoTie := bNoTie
    tNoTie := tNoTie
    xTooMany := xTooMany
    kTooMany := kTooMany
    bTooMany := bTooMany
    tTooMany := tTooMany
    hb_JoinError := hb_JoinError
    hd_JoinError := hdd_JoinError
    ht_JoinError := ht_JoinError
    su_BadSize_JoinError := su_BadSize_JoinError
    su_BadPoint_JoinError := su_BadPoint_JoinError
    su_Twice_JoinError := su_Twice_JoinError
    su_NoTie_JoinError := su_NoTie_JoinError
    su_TooMany_JoinError := su_TooMany_JoinError
    ec_BadSize := ⟨eg_BadSize, ek_BadSize, bBadSize, ed_BadSize, ea_BadSize, hn0, ht0, em_BadSize⟩
    is_BadSize_BadSize := kit_ref sd_BadSize st_BadSize ss_BadSize is_BadSize_BadSize
    is_BadSize_BadPoint := kit_ref sd_BadPoint st_BadPoint ss_BadPoint is_BadSize_BadPoint
    is_BadSize_Twice := kit_ref sd_Twice st_Twice ss_Twice is_BadSize_Twice
    is_BadSize_NoTie := kit_ref sd_NoTie st_NoTie ss_NoTie is_BadSize_NoTie
    is_BadSize_TooMany := kit_ref sd_TooMany st_TooMany ss_TooMany is_BadSize_TooMany
    is_BadSize_NoTree := kit_ref sd_NoTree st_NoTree ss_NoTree is_BadSize_NoTree
    is_BadSize_BadTree := kit_ref sd_BadTree st_BadTree ss_BadTree is_BadSize_BadTree
    is_BadSize_BadText := kit_ref sd_BadText st_BadText ss_BadText is_BadSize_BadText
    is_BadSize_ValueError := kit_tyo (by decide +kernel) is_BadSize_ValueError
    ec_BadPoint := ⟨eg_BadPoint, ek_BadPoint, bBadPoint, ed_BadPoint, ea_BadPoint, hn0, ht0, em_BadPoint⟩
    is_BadPoint_BadSize := kit_ref sd_BadSize st_BadSize ss_BadSize is_BadPoint_BadSize
    is_BadPoint_BadPoint := kit_ref sd_BadPoint st_BadPoint ss_BadPoint is_BadPoint_BadPoint
    is_BadPoint_Twice := kit_ref sd_Twice st_Twice ss_Twice is_BadPoint_Twice
    is_BadPoint_NoTie := kit_ref sd_NoTie st_NoTie ss_NoTie is_BadPoint_NoTie
    is_BadPoint_TooMany := kit_ref sd_TooMany st_TooMany ss_TooMany is_BadPoint_TooMany
    is_BadPoint_NoTree := kit_ref sd_NoTree st_NoTree ss_NoTree is_BadPoint_NoTree
    is_BadPoint_BadTree := kit_ref sd_BadTree st_BadTree ss_BadTree is_BadPoint_BadTree
    is_BadPoint_BadText := kit_ref sd_BadText st_BadText ss_BadText is_BadPoint_BadText
    is_BadPoint_ValueError := kit_tyo (by decide +kernel) is_BadPoint_ValueError
    ec_Twice := ⟨eg_Twice, ek_Twice, bTwice, ed_Twice, ea_Twice, hn0, ht0, em_Twice⟩
    is_Twice_BadSize := kit_ref sd_BadSize st_BadSize ss_BadSize is_Twice_BadSize
    is_Twice_BadPoint := kit_ref sd_BadPoint st_BadPoint ss_BadPoint is_Twice_BadPoint
    is_Twice_Twice := kit_ref sd_Twice st_Twice ss_Twice is_Twice_Twice
    is_Twice_NoTie := kit_ref sd_NoTie st_NoTie ss_NoTie is_Twice_NoTie
    is_Twice_TooMany := kit_ref sd_TooMany st_TooMany ss_TooMany is_Twice_TooMany
    is_Twice_NoTree := kit_ref sd_NoTree st_NoTree ss_NoTree is_Twice_NoTree
    is_Twice_BadTree := kit_ref sd_BadTree st_BadTree ss_BadTree is_Twice_BadTree
    is_Twice_BadText := kit_ref sd_BadText st_BadText ss_BadText is_Twice_BadText
    is_Twice_ValueError := kit_tyo (by decide +kernel) is_Twice_ValueError
    ec_NoTie := ⟨eg_NoTie, ek_NoTie, bNoTie, ed_NoTie, ea_NoTie, hn0, ht0, em_NoTie⟩
    is_NoTie_BadSize := kit_ref sd_BadSize st_BadSize ss_BadSize is_NoTie_BadSize
    is_NoTie_BadPoint := kit_ref sd_BadPoint st_BadPoint ss_BadPoint is_NoTie_BadPoint
    is_NoTie_Twice := kit_ref sd_Twice st_Twice ss_Twice is_NoTie_Twice
    is_NoTie_NoTie := kit_ref sd_NoTie st_NoTie ss_NoTie is_NoTie_NoTie
    is_NoTie_TooMany := kit_ref sd_TooMany st_TooMany ss_TooMany is_NoTie_TooMany
    is_NoTie_NoTree := kit_ref sd_NoTree st_NoTree ss_NoTree is_NoTie_NoTree
    is_NoTie_BadTree := kit_ref sd_BadTree st_BadTree ss_BadTree is_NoTie_BadTree
    is_NoTie_BadText := kit_ref sd_BadText st_BadText ss_BadText is_NoTie_BadText
    is_NoTie_ValueError := kit_tyo (by decide +kernel) is_NoTie_ValueError
    ec_TooMany := ⟨eg_TooMany, ek_TooMany, bTooMany, ed_TooMany, ea_TooMany, hn0, ht0, em_TooMany⟩
    is_TooMany_BadSize := kit_ref sd_BadSize st_BadSize ss_BadSize is_TooMany_BadSize
    is_TooMany_BadPoint := kit_ref sd_BadPoint st_BadPoint ss_BadPoint is_TooMany_BadPoint
    is_TooMany_Twice := kit_ref sd_Twice st_Twice ss_Twice is_TooMany_Twice
    is_TooMany_NoTie := kit_ref sd_NoTie st_NoTie ss_NoTie is_TooMany_NoTie
    is_TooMany_TooMany := kit_ref sd_TooMany st_TooMany ss_TooMany is_TooMany_TooMany
    is_TooMany_NoTree := kit_ref sd_NoTree st_NoTree ss_NoTree is_TooMany_NoTree
    is_TooMany_BadTree := kit_ref sd_BadTree st_BadTree ss_BadTree is_TooMany_BadTree
    is_TooMany_BadText := kit_ref sd_BadText st_BadText ss_BadText is_TooMany_BadText
    is_TooMany_ValueError := kit_tyo (by decide +kernel) is_TooMany_ValueError
    nt := nt_of (PySem.W.mg_of X G h_c_NoTree) ⟨_, _, _, _, _, _, _, _, _, _, _, _, _, _, c_NoTree_init, l_NoTree_init⟩ ⟨_, _, _, _, _, _, _, _, _, _, _, _, _, _, _, nt_ve, nt_cls⟩ nt_sa nt_ga nt_gg nt_no f_NoTree_init nt_ft nt_kp nt_sb nt_ty nt_hd nt_ss
    xf_NoTree := ⟨nt_ga, nt_gg, nt_sb, nt_hd⟩
    su_NoTree_JoinError := su_NoTree_JoinError
    ec_NoTree := ⟨nt_ga, nt_gg, nt_sb, nt_hd, nt_cl, hn0, ht0, nt_mr⟩
    is_NoTree_BadSize := kit_ref sd_BadSize st_BadSize ss_BadSize is_NoTree_BadSize
    is_NoTree_BadPoint := kit_ref sd_BadPoint st_BadPoint ss_BadPoint is_NoTree_BadPoint
    is_NoTree_Twice := kit_ref sd_Twice st_Twice ss_Twice is_NoTree_Twice
    is_NoTree_NoTie := kit_ref sd_NoTie st_NoTie ss_NoTie is_NoTree_NoTie
    is_NoTree_TooMany := kit_ref sd_TooMany st_TooMany ss_TooMany is_NoTree_TooMany
    is_NoTree_NoTree := kit_ref sd_NoTree st_NoTree ss_NoTree is_NoTree_NoTree
    is_NoTree_BadTree := kit_ref sd_BadTree st_BadTree ss_BadTree is_NoTree_BadTree
    is_NoTree_BadText := kit_ref sd_BadText st_BadText ss_BadText is_NoTree_BadText
    is_NoTree_ValueError := kit_tyo (by decide +kernel) is_NoTree_ValueError
    isa_Web := ⟨ia_Web, hn0, ht0, im_Web⟩
    ValueError := PySem.W.mg_none_of X G z_ValueError
    all := PySem.W.mg_none_of X G z_all
    bool := PySem.W.mg_none_of X G z_bool
    int := PySem.W.mg_none_of X G z_int
    isinstance := PySem.W.mg_none_of X G z_isinstance
    len := PySem.W.mg_none_of X G z_len
    list := PySem.W.mg_none_of X G z_list
    max := PySem.W.mg_none_of X G z_max
    min := PySem.W.mg_none_of X G z_min
    range := PySem.W.mg_none_of X G z_range
    repr := PySem.W.mg_none_of X G z_repr
    set := PySem.W.mg_none_of X G z_set
    sorted := PySem.W.mg_none_of X G z_sorted
    tuple := PySem.W.mg_none_of X G z_tuple
    cMOST_POINTS := ⟨_, PySem.W.mg_of X G v_MOST_POINTS⟩
    cSIDE := ⟨_, PySem.W.mg_of X G v_SIDE⟩
    cJOIN := ⟨_, PySem.W.mg_of X G v_JOIN⟩ }
  exact ⟨_, fun s v => .of_eq rfl, fun base _ _ => ok_law T⟩

theorem walk {l : PySem.W.OpenLaw} {q : Program} {loose : List Str} {XP : (Str → Option Value) → Heap → Prop} {YP : World → Heap → Prop} {d : DefRec} {K : Params → PySem.W.Frag} (hn : l.most = some 63) (hdf : d.params.defaults = [])
    (hY : ∀ (w : World) (h : Heap), YP w h → (K w.params).In h)
    (F : ∀ (w : World) (mg : Str → Option Value) (fa : Addr) (h : Heap), (K w.params).In h → h.Ns mainGlobals mg → mg d.name = some (.ref fa) →
      ∃ fd : FuncData, (∀ (s : Shared) (u : Value), BindsTo s fd ⟨[u], []⟩ [("_law_script", u)]) ∧ ∀ base : Heap, (K w.params).In base → base.Ns mainGlobals mg → FnG l.prog w (K w.params) mg base 68 fa fd ["_law_script"] (spLaw (K w.params))) :
    PySem.W.WalkO q loose XP YP l.row.toRowW d [] (fun f vs => PySem.call f vs) :=
  walk_ofG (n := 63) (sp := spLaw) hn (by decide) hdf ⟨rfl, by decide, by decide⟩ hY F (fun _ _ a ns hl _ hS => ⟨a, ns, rfl, hS, hl, fun _ => rfl⟩)
end Jk
open PySem PySem.W PyProof.Rows
set_option maxRecDepth 100000 in
set_option maxHeartbeats 0 in
theorem PySem.Challenge.cw_joinside_k13_whole_kept_holds : PySem.Challenge.rw_joinside_k13_whole_kept.Holds := by
  w_on; o_law; k_head; (case hw => w_witness2)
  k_fill
  refine Jk.walk (l := PySem.Challenge.rw_joinside_k13_whole_kept) rfl rfl (fun w h Y => PySem.W.kIn_of Y) ?F
  case F =>
    intro w mg fa h KX G hmg
    refine' Jk.all_mk KX G hmg ?h_c_BadPoint ?h_c_BadSize ?h_c_BadText ?h_c_BadTree ?h_c_JoinError ?h_c_Kept ?h_c_NoTie ?h_c_NoTree ?h_c_TooMany ?h_c_Twice ?h_c_Web ?f_NoTree_init ?i_NoTree_init ?l_NoTree_init ?c_NoTree_init ?k_NoTree_init ?f_whole_within ?l_whole_within ?c_whole_within ?k_whole_within ?f_unlike_points ?l_unlike_points ?c_unlike_points ?k_unlike_points ?f_pairs ?l_pairs ?c_pairs ?k_pairs ?f_Web_init ?i_Web_init ?l_Web_init ?c_Web_init ?k_Web_init ?f_Web_many ?i_Web_many ?l_Web_many ?c_Web_many ?k_Web_many ?f_Web_has ?i_Web_has ?l_Web_has ?c_Web_has ?k_Web_has ?f_Web_put ?i_Web_put ?l_Web_put ?c_Web_put ?k_Web_put ?f_Web_take ?i_Web_take ?l_Web_take ?c_Web_take ?k_Web_take ?f_Web_grow ?i_Web_grow ?l_Web_grow ?c_Web_grow ?k_Web_grow ?f_Web_beside ?i_Web_beside ?l_Web_beside ?c_Web_beside ?k_Web_beside ?f_Web_ties ?i_Web_ties ?l_Web_ties ?c_Web_ties ?k_Web_ties ?f_Web_need_point ?i_Web_need_point ?l_Web_need_point ?c_Web_need_point ?k_Web_need_point ?f_part ?l_part ?c_part ?k_part ?f_row_in ?l_row_in ?c_row_in ?k_row_in ?f_tree_of ?l_tree_of ?c_tree_of ?k_tree_of ?f_near_each ?l_near_each ?c_near_each ?k_near_each ?f_told_of ?l_told_of ?c_told_of ?k_told_of ?f_groups ?l_groups ?c_groups ?k_groups ?f_group_of ?l_group_of ?c_group_of ?k_group_of ?f_Kept_init ?i_Kept_init ?l_Kept_init ?c_Kept_init ?k_Kept_init ?f_Kept_put ?i_Kept_put ?l_Kept_put ?c_Kept_put ?k_Kept_put ?f_Kept_take ?i_Kept_take ?l_Kept_take ?c_Kept_take ?k_Kept_take ?f_Kept_grow ?i_Kept_grow ?l_Kept_grow ?c_Kept_grow ?k_Kept_grow ?f_Kept_tree ?i_Kept_tree ?l_Kept_tree ?c_Kept_tree ?k_Kept_tree ?f_Kept_web ?i_Kept_web ?l_Kept_web ?c_Kept_web ?k_Kept_web ?f_Kept_become ?i_Kept_become ?l_Kept_become ?c_Kept_become ?k_Kept_become ?f_l_mixed ?l_l_mixed ?c_l_mixed ?k_l_mixed ?f_l_number ?l_l_number ?c_l_number ?k_l_number ?f_l_kind ?l_l_kind ?c_l_kind ?k_l_kind ?f_l_whole ?l_l_whole ?c_l_whole ?k_l_whole ?f_l_least ?l_l_least ?c_l_least ?k_l_least ?f_l_points ?l_l_points ?c_l_points ?k_l_points ?f_l_ties ?l_l_ties ?c_l_ties ?k_l_ties ?f_l_is_tree ?l_l_is_tree ?c_l_is_tree ?k_l_is_tree ?f_l_form ?l_l_form ?c_l_form ?k_l_form ?f_l_is_row ?l_l_is_row ?c_l_is_row ?k_l_is_row ?f_l_near ?l_l_near ?c_l_near ?k_l_near ?f_l_has_row ?l_l_has_row ?c_l_has_row ?k_l_has_row ?f_l_is_point ?l_l_is_point ?c_l_is_point ?k_l_is_point ?f_l_due ?l_l_due ?c_l_due ?k_l_due ?f_l_said ?l_l_said ?c_l_said ?k_l_said ?f_l_done ?l_l_done ?c_l_done ?k_l_done ?f_l_right ?l_l_right ?c_l_right ?k_l_right ?f_l_deed ?l_l_deed ?c_l_deed ?k_l_deed ?f_l_size_refused ?l_l_size_refused ?c_l_size_refused ?k_l_size_refused ?f_law ?l_law ?c_law ?k_law ?pg_Kept ?hd_Kept ?po_Kept ?sa_Kept ?mm_Kept ?kc_Kept ?n_Kept__web ?pg_Web ?hd_Web ?po_Web ?sa_Web ?mm_Web ?kc_Web ?n_Web__near ?xBadSize ?kBadSize ?bBadSize ?tBadSize ?xBadPoint ?kBadPoint ?bBadPoint ?tBadPoint ?xTwice ?kTwice ?bTwice ?tTwice ?xNoTie ?kNoTie ?bNoTie ?tNoTie ?xTooMany ?kTooMany ?bTooMany ?tTooMany ?hb_JoinError ?hdd_JoinError ?ht_JoinError ?su_BadSize_JoinError ?su_BadPoint_JoinError ?su_Twice_JoinError ?su_NoTie_JoinError ?su_TooMany_JoinError ?hn0 ?ht0 ?sd_BadSize ?st_BadSize ?ss_BadSize ?sd_BadPoint ?st_BadPoint ?ss_BadPoint ?sd_Twice ?st_Twice ?ss_Twice ?sd_NoTie ?st_NoTie ?ss_NoTie ?sd_TooMany ?st_TooMany ?ss_TooMany ?sd_NoTree ?st_NoTree ?ss_NoTree ?sd_BadTree ?st_BadTree ?ss_BadTree ?sd_BadText ?st_BadText ?ss_BadText ?eg_BadSize ?ek_BadSize ?ed_BadSize ?ea_BadSize ?em_BadSize ?is_BadSize_BadSize ?is_BadSize_BadPoint ?is_BadSize_Twice ?is_BadSize_NoTie ?is_BadSize_TooMany ?is_BadSize_NoTree ?is_BadSize_BadTree ?is_BadSize_BadText ?is_BadSize_ValueError ?eg_BadPoint ?ek_BadPoint ?ed_BadPoint ?ea_BadPoint ?em_BadPoint ?is_BadPoint_BadSize ?is_BadPoint_BadPoint ?is_BadPoint_Twice ?is_BadPoint_NoTie ?is_BadPoint_TooMany ?is_BadPoint_NoTree ?is_BadPoint_BadTree ?is_BadPoint_BadText ?is_BadPoint_ValueError ?eg_Twice ?ek_Twice ?ed_Twice ?ea_Twice ?em_Twice ?is_Twice_BadSize ?is_Twice_BadPoint ?is_Twice_Twice ?is_Twice_NoTie ?is_Twice_TooMany ?is_Twice_NoTree ?is_Twice_BadTree ?is_Twice_BadText ?is_Twice_ValueError ?eg_NoTie ?ek_NoTie ?ed_NoTie ?ea_NoTie ?em_NoTie ?is_NoTie_BadSize ?is_NoTie_BadPoint ?is_NoTie_Twice ?is_NoTie_NoTie ?is_NoTie_TooMany ?is_NoTie_NoTree ?is_NoTie_BadTree ?is_NoTie_BadText ?is_NoTie_ValueError ?eg_TooMany ?ek_TooMany ?ed_TooMany ?ea_TooMany ?em_TooMany ?is_TooMany_BadSize ?is_TooMany_BadPoint ?is_TooMany_Twice ?is_TooMany_NoTie ?is_TooMany_TooMany ?is_TooMany_NoTree ?is_TooMany_BadTree ?is_TooMany_BadText ?is_TooMany_ValueError ?nt_cls ?nt_ve ?nt_sa ?nt_ga ?nt_gg ?nt_no ?nt_cl ?nt_ft ?nt_kp ?nt_sb ?nt_ty ?nt_hd ?nt_ss ?nt_mr ?su_NoTree_JoinError ?is_NoTree_BadSize ?is_NoTree_BadPoint ?is_NoTree_Twice ?is_NoTree_NoTie ?is_NoTree_TooMany ?is_NoTree_NoTree ?is_NoTree_BadTree ?is_NoTree_BadText ?is_NoTree_ValueError ?ia_Web ?im_Web ?z_ValueError ?z_all ?z_bool ?z_int ?z_isinstance ?z_len ?z_list ?z_max ?z_min ?z_range ?z_repr ?z_set ?z_sorted ?z_tuple ?v_MOST_POINTS ?v_SIDE ?v_JOIN
    (case h_c_BadPoint => k_is)
    (case h_c_BadSize => k_is)
    (case h_c_BadText => k_is)
    (case h_c_BadTree => k_is)
    (case h_c_JoinError => k_is)
    (case h_c_Kept => k_is)
    (case h_c_NoTie => k_is)
    (case h_c_NoTree => k_is)
    (case h_c_TooMany => k_is)
    (case h_c_Twice => k_is)
    (case h_c_Web => k_is)
    (case f_NoTree_init => k_is)
    (case i_NoTree_init => k_is)
    (case l_NoTree_init => k_is)
    (case c_NoTree_init => k_is)
    (case k_NoTree_init => k_is)
    (case f_whole_within => k_is)
    (case l_whole_within => k_is)
    (case c_whole_within => k_is)
    (case k_whole_within => k_is)
    (case f_unlike_points => k_is)
    (case l_unlike_points => k_is)
    (case c_unlike_points => k_is)
    (case k_unlike_points => k_is)
    (case f_pairs => k_is)
    (case l_pairs => k_is)
    (case c_pairs => k_is)
    (case k_pairs => k_is)
    (case f_Web_init => k_is)
    (case i_Web_init => k_is)
    (case l_Web_init => k_is)
    (case c_Web_init => k_is)
    (case k_Web_init => k_is)
    (case f_Web_many => k_is)
    (case i_Web_many => k_is)
    (case l_Web_many => k_is)
    (case c_Web_many => k_is)
    (case k_Web_many => k_is)
    (case f_Web_has => k_is)
    (case i_Web_has => k_is)
    (case l_Web_has => k_is)
    (case c_Web_has => k_is)
    (case k_Web_has => k_is)
    (case f_Web_put => k_is)
    (case i_Web_put => k_is)
    (case l_Web_put => k_is)
    (case c_Web_put => k_is)
    (case k_Web_put => k_is)
    (case f_Web_take => k_is)
    (case i_Web_take => k_is)
    (case l_Web_take => k_is)
    (case c_Web_take => k_is)
    (case k_Web_take => k_is)
    (case f_Web_grow => k_is)
    (case i_Web_grow => k_is)
    (case l_Web_grow => k_is)
    (case c_Web_grow => k_is)
    (case k_Web_grow => k_is)
    (case f_Web_beside => k_is)
    (case i_Web_beside => k_is)
    (case l_Web_beside => k_is)
    (case c_Web_beside => k_is)
    (case k_Web_beside => k_is)
    (case f_Web_ties => k_is)
    (case i_Web_ties => k_is)
    (case l_Web_ties => k_is)
    (case c_Web_ties => k_is)
    (case k_Web_ties => k_is)
    (case f_Web_need_point => k_is)
    (case i_Web_need_point => k_is)
    (case l_Web_need_point => k_is)
    (case c_Web_need_point => k_is)
    (case k_Web_need_point => k_is)
    (case f_part => k_is)
    (case l_part => k_is)
    (case c_part => k_is)
    (case k_part => k_is)
    (case f_row_in => k_is)
    (case l_row_in => k_is)
    (case c_row_in => k_is)
    (case k_row_in => k_is)
    (case f_tree_of => k_is)
    (case l_tree_of => k_is)
    (case c_tree_of => k_is)
    (case k_tree_of => k_is)
    (case f_near_each => k_is)
    (case l_near_each => k_is)
    (case c_near_each => k_is)
    (case k_near_each => k_is)
    (case f_told_of => k_is)
    (case l_told_of => k_is)
    (case c_told_of => k_is)
    (case k_told_of => k_is)
    (case f_groups => k_is)
    (case l_groups => k_is)
    (case c_groups => k_is)
    (case k_groups => k_is)
    (case f_group_of => k_is)
    (case l_group_of => k_is)
    (case c_group_of => k_is)
    (case k_group_of => k_is)
    (case f_Kept_init => k_is)
    (case i_Kept_init => k_is)
    (case l_Kept_init => k_is)
    (case c_Kept_init => k_is)
    (case k_Kept_init => k_is)
    (case f_Kept_put => k_is)
    (case i_Kept_put => k_is)
    (case l_Kept_put => k_is)
    (case c_Kept_put => k_is)
    (case k_Kept_put => k_is)
    (case f_Kept_take => k_is)
    (case i_Kept_take => k_is)
    (case l_Kept_take => k_is)
    (case c_Kept_take => k_is)
    (case k_Kept_take => k_is)
    (case f_Kept_grow => k_is)
    (case i_Kept_grow => k_is)
    (case l_Kept_grow => k_is)
    (case c_Kept_grow => k_is)
    (case k_Kept_grow => k_is)
    (case f_Kept_tree => k_is)
    (case i_Kept_tree => k_is)
    (case l_Kept_tree => k_is)
    (case c_Kept_tree => k_is)
    (case k_Kept_tree => k_is)
    (case f_Kept_web => k_is)
    (case i_Kept_web => k_is)
    (case l_Kept_web => k_is)
    (case c_Kept_web => k_is)
    (case k_Kept_web => k_is)
    (case f_Kept_become => k_is)
    (case i_Kept_become => k_is)
    (case l_Kept_become => k_is)
    (case c_Kept_become => k_is)
    (case k_Kept_become => k_is)
    (case f_l_mixed => k_is)
    (case l_l_mixed => k_is)
    (case c_l_mixed => k_is)
    (case k_l_mixed => k_is)
    (case f_l_number => k_is)
    (case l_l_number => k_is)
    (case c_l_number => k_is)
    (case k_l_number => k_is)
    (case f_l_kind => k_is)
    (case l_l_kind => k_is)
    (case c_l_kind => k_is)
    (case k_l_kind => k_is)
    (case f_l_whole => k_is)
    (case l_l_whole => k_is)
    (case c_l_whole => k_is)
    (case k_l_whole => k_is)
    (case f_l_least => k_is)
    (case l_l_least => k_is)
    (case c_l_least => k_is)
    (case k_l_least => k_is)
    (case f_l_points => k_is)
    (case l_l_points => k_is)
    (case c_l_points => k_is)
    (case k_l_points => k_is)
    (case f_l_ties => k_is)
    (case l_l_ties => k_is)
    (case c_l_ties => k_is)
    (case k_l_ties => k_is)
    (case f_l_is_tree => k_is)
    (case l_l_is_tree => k_is)
    (case c_l_is_tree => k_is)
    (case k_l_is_tree => k_is)
    (case f_l_form => k_is)
    (case l_l_form => k_is)
    (case c_l_form => k_is)
    (case k_l_form => k_is)
    (case f_l_is_row => k_is)
    (case l_l_is_row => k_is)
    (case c_l_is_row => k_is)
    (case k_l_is_row => k_is)
    (case f_l_near => k_is)
    (case l_l_near => k_is)
    (case c_l_near => k_is)
    (case k_l_near => k_is)
    (case f_l_has_row => k_is)
    (case l_l_has_row => k_is)
    (case c_l_has_row => k_is)
    (case k_l_has_row => k_is)
    (case f_l_is_point => k_is)
    (case l_l_is_point => k_is)
    (case c_l_is_point => k_is)
    (case k_l_is_point => k_is)
    (case f_l_due => k_is)
    (case l_l_due => k_is)
    (case c_l_due => k_is)
    (case k_l_due => k_is)
    (case f_l_said => k_is)
    (case l_l_said => k_is)
    (case c_l_said => k_is)
    (case k_l_said => k_is)
    (case f_l_done => k_is)
    (case l_l_done => k_is)
    (case c_l_done => k_is)
    (case k_l_done => k_is)
    (case f_l_right => k_is)
    (case l_l_right => k_is)
    (case c_l_right => k_is)
    (case k_l_right => k_is)
    (case f_l_deed => k_is)
    (case l_l_deed => k_is)
    (case c_l_deed => k_is)
    (case k_l_deed => k_is)
    (case f_l_size_refused => k_is)
    (case l_l_size_refused => k_is)
    (case c_l_size_refused => k_is)
    (case k_l_size_refused => k_is)
    (case f_law => k_is)
    (case l_law => k_is)
    (case c_law => k_is)
    (case k_law => k_is)
    (case pg_Kept => k_is)
    (case hd_Kept => k_is)
    (case po_Kept => k_is)
    (case sa_Kept => k_is)
    (case mm_Kept => k_is)
    (case kc_Kept => k_is)
    (case n_Kept__web => k_is)
    (case pg_Web => k_is)
    (case hd_Web => k_is)
    (case po_Web => k_is)
    (case sa_Web => k_is)
    (case mm_Web => k_is)
    (case kc_Web => k_is)
    (case n_Web__near => k_is)
    (case xBadSize => k_exc)
    (case kBadSize => k_is)
    (case bBadSize => k_is)
    (case tBadSize => k_is)
    (case xBadPoint => k_exc)
    (case kBadPoint => k_is)
    (case bBadPoint => k_is)
    (case tBadPoint => k_is)
    (case xTwice => k_exc)
    (case kTwice => k_is)
    (case bTwice => k_is)
    (case tTwice => k_is)
    (case xNoTie => k_exc)
    (case kNoTie => k_is)
    (case bNoTie => k_is)
    (case tNoTie => k_is)
    (case xTooMany => k_exc)
    (case kTooMany => k_is)
    (case bTooMany => k_is)
    (case tTooMany => k_is)
    (case hb_JoinError => k_is)
    (case hdd_JoinError => k_is)
    (case ht_JoinError => k_is)
    (case su_BadSize_JoinError => k_is)
    (case su_BadPoint_JoinError => k_is)
    (case su_Twice_JoinError => k_is)
    (case su_NoTie_JoinError => k_is)
    (case su_TooMany_JoinError => k_is)
    (case hn0 => k_is)
    (case ht0 => k_is)
    (case sd_BadSize => k_is)
    (case st_BadSize => k_is)
    (case ss_BadSize => k_is)
    (case sd_BadPoint => k_is)
    (case st_BadPoint => k_is)
    (case ss_BadPoint => k_is)
    (case sd_Twice => k_is)
    (case st_Twice => k_is)
    (case ss_Twice => k_is)
    (case sd_NoTie => k_is)
    (case st_NoTie => k_is)
    (case ss_NoTie => k_is)
    (case sd_TooMany => k_is)
    (case st_TooMany => k_is)
    (case ss_TooMany => k_is)
    (case sd_NoTree => k_is)
    (case st_NoTree => k_is)
    (case ss_NoTree => k_is)
    (case sd_BadTree => k_is)
    (case st_BadTree => k_is)
    (case ss_BadTree => k_is)
    (case sd_BadText => k_is)
    (case st_BadText => k_is)
    (case ss_BadText => k_is)
    (case eg_BadSize => k_is)
    (case ek_BadSize => k_is)
    (case ed_BadSize => k_is)
    (case ea_BadSize => k_is)
    (case em_BadSize => k_is)
    (case is_BadSize_BadSize => k_is)
    (case is_BadSize_BadPoint => k_is)
    (case is_BadSize_Twice => k_is)
    (case is_BadSize_NoTie => k_is)
    (case is_BadSize_TooMany => k_is)
    (case is_BadSize_NoTree => k_is)
    (case is_BadSize_BadTree => k_is)
    (case is_BadSize_BadText => k_is)
    (case is_BadSize_ValueError => k_is)
    (case eg_BadPoint => k_is)
    (case ek_BadPoint => k_is)
    (case ed_BadPoint => k_is)
    (case ea_BadPoint => k_is)
    (case em_BadPoint => k_is)
    (case is_BadPoint_BadSize => k_is)
    (case is_BadPoint_BadPoint => k_is)
    (case is_BadPoint_Twice => k_is)
    (case is_BadPoint_NoTie => k_is)
    (case is_BadPoint_TooMany => k_is)
    (case is_BadPoint_NoTree => k_is)
    (case is_BadPoint_BadTree => k_is)
    (case is_BadPoint_BadText => k_is)
    (case is_BadPoint_ValueError => k_is)
    (case eg_Twice => k_is)
    (case ek_Twice => k_is)
    (case ed_Twice => k_is)
    (case ea_Twice => k_is)
    (case em_Twice => k_is)
    (case is_Twice_BadSize => k_is)
    (case is_Twice_BadPoint => k_is)
    (case is_Twice_Twice => k_is)
    (case is_Twice_NoTie => k_is)
    (case is_Twice_TooMany => k_is)
    (case is_Twice_NoTree => k_is)
    (case is_Twice_BadTree => k_is)
    (case is_Twice_BadText => k_is)
    (case is_Twice_ValueError => k_is)
    (case eg_NoTie => k_is)
    (case ek_NoTie => k_is)
    (case ed_NoTie => k_is)
    (case ea_NoTie => k_is)
    (case em_NoTie => k_is)
    (case is_NoTie_BadSize => k_is)
    (case is_NoTie_BadPoint => k_is)
    (case is_NoTie_Twice => k_is)
    (case is_NoTie_NoTie => k_is)
    (case is_NoTie_TooMany => k_is)
    (case is_NoTie_NoTree => k_is)
    (case is_NoTie_BadTree => k_is)
    (case is_NoTie_BadText => k_is)
    (case is_NoTie_ValueError => k_is)
    (case eg_TooMany => k_is)
    (case ek_TooMany => k_is)
    (case ed_TooMany => k_is)
    (case ea_TooMany => k_is)
    (case em_TooMany => k_is)
    (case is_TooMany_BadSize => k_is)
    (case is_TooMany_BadPoint => k_is)
    (case is_TooMany_Twice => k_is)
    (case is_TooMany_NoTie => k_is)
    (case is_TooMany_TooMany => k_is)
    (case is_TooMany_NoTree => k_is)
    (case is_TooMany_BadTree => k_is)
    (case is_TooMany_BadText => k_is)
    (case is_TooMany_ValueError => k_is)
    (case nt_cls => k_is)
    (case nt_ve => first | rfl | decide +kernel)
    (case nt_sa => k_is)
    (case nt_ga => k_is)
    (case nt_gg => k_is)
    (case nt_no => k_is)
    (case nt_cl => k_is)
    (case nt_ft => k_is)
    (case nt_kp => k_is)
    (case nt_sb => k_is)
    (case nt_ty => k_is)
    (case nt_hd => k_is)
    (case nt_ss => k_is)
    (case nt_mr => k_is)
    (case su_NoTree_JoinError => k_is)
    (case is_NoTree_BadSize => k_is)
    (case is_NoTree_BadPoint => k_is)
    (case is_NoTree_Twice => k_is)
    (case is_NoTree_NoTie => k_is)
    (case is_NoTree_TooMany => k_is)
    (case is_NoTree_NoTree => k_is)
    (case is_NoTree_BadTree => k_is)
    (case is_NoTree_BadText => k_is)
    (case is_NoTree_ValueError => k_is)
    (case ia_Web => k_is)
    (case im_Web => k_is)
    (case z_ValueError => k_is)
    (case z_all => k_is)
    (case z_bool => k_is)
    (case z_int => k_is)
    (case z_isinstance => k_is)
    (case z_len => k_is)
    (case z_list => k_is)
    (case z_max => k_is)
    (case z_min => k_is)
    (case z_range => k_is)
    (case z_repr => k_is)
    (case z_set => k_is)
    (case z_sorted => k_is)
    (case z_tuple => k_is)
    (case v_MOST_POINTS => k_is)
    (case v_SIDE => k_is)
    (case v_JOIN => k_is)
