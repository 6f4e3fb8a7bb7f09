import PyProof.Rows.All
import Wide.All
import OpenK.AllK
import Wide.FinOn
import HandS.ForMost
import HandS.Wide
import HandS.Conv
import HandS.EndBits
import HandS.ForExc
import HandS.Style
import HandS.Codes
import HandS.Property
import HandS.MakeKwOnly
import HandS.IsInst
import HandS.TupAny
import HandS.Walk
import HandS.ExcInit
import HandS.ExcIs
import HandS.ExcField
import HandS.RaiseMore
import PySem.Challenge.RW_tightranges_k56_errors_made
set_option Elab.async false
set_option linter.all false
set_option maxRecDepth 100000
namespace Gd
open PySem PySem.Spec PyProof.Rows L2

/-! ### a def called where no repr is under way -/
structure FnGd (P : Program) (w : World) (K : PySem.W.Frag) (mg : Str → Option Value)
    (base : Heap) (k : Nat) (f : Addr) (fd : FuncData) (ps : List Str) (sp : Sp) : Prop where
  len : ∀ vs H Q E, sp vs H Q E → vs.length = ps.length
  run : ∀ (A : Around) (out : List Env) (s : Shared) (H : Hp) (args : Args)
      (us : List Value) (vs : List V) (Q : VK) (E : XK),
      A.guards = some [] → Room k A → Env0 P w K mg base A out s H →
      BindsTo s fd args (ps.zip us) → Vals vs us → sp vs H Q E →
      codeAny (model P w) A (.call (.ref f) args) (CR CX0 out P w H s Q E) s

section
variable {P : Program} {w : World} {K : PySem.W.Frag} {mg : Str → Option Value} {base : Heap}

theorem okG {x qual : Str} {st : Stmt} {f : Addr} {fd : FuncData} {N ps : List Str} {k : Nat} {sp : Sp}
    (F : Fun K x qual st f fd) (S : FnScope N ps (defScope st))
    (len : ∀ vs H Q E, sp vs H Q E → vs.length = ps.length)
    (hb : ∀ (cdv : Value) (A : Around) (out : List Env) (s : Shared) (H : Hp) (vs : List V) (Q : VK) (E : XK),
      (A.deeper (envOfC qual (defScope st) s.heap.objs.size f cdv)).guards = some [] →
      Room k (A.deeper (envOfC qual (defScope st) s.heap.objs.size f cdv)) → sp vs H Q E →
      ∃ t, PSs (cxOf CX0 P w K mg base N qual (defScope st) f cdv A out s H E).nox (defBody st) t ∧
        t { nx := fun _ H' => Q .non H', rt := Q } (start N vs) H) :
    FnGd P w K mg base (k + 1) f fd ps sp := by
  obtain ⟨oc, od, kV, doc, pm, an, cdv, ct, osl, rfl, lk, cdok⟩ := F.ex
  constructor
  · exact len
  intro A out s H args us vs Q E gA rm env bnd rel pre
  have pl := len vs H Q E pre
  have keep : ∀ b o, base.get? b = some o → s.heap.get? b = some o := fun b o e => (env.bs b o e).1
  have kin := env.mod.kin.keeps keep
  have nol := env.mod.nolimit.keeps keep
  refine codeAny_call_function rm.depth (kin _ _ lk) rfl S.co S.gen rfl
    (PySem.W.codeRec_of kin cdok) (bnd _ _ _ _ ?_)
  refine wpAny_newFunctionEnv_cells S.kind ?_ fun en he s1 xx => ?_
  · rintro ⟨nm, val⟩ mem
    cases S.par nm (List.of_mem_zip mem).1 with
    | inl q => exact .inl q
    | inr q => exact .inr ⟨q, PySem.W.cellsFrom_some _ _ _ (.inl q)⟩
  subst he
  refine ⟨nol.keeps xx.toInCall.keep, codeAny_func ?_⟩
  obtain ⟨t, ht, hq⟩ := hb cdv A out s H vs Q E gA (rm.deeper _) pre
  have J0 := inv_start (CX := CX0) (E := E) (qual := qual) (f := f) (cd := cdv) S rm.hd env pl rel xx
  refine wpAny_mono (ht.nox.run [] s1 (start N vs) H _ J0 hq) ?_ (fun _ _ z => z)
  intro fl s' post
  cases fl with
  | next =>
    obtain ⟨_, H', J, q⟩ := post
    exact ⟨.non, H', J.os, J.bare, J.base, J.hok, rfl, q⟩
  | ret u =>
    obtain ⟨v, _, H', J, rv, q⟩ := post
    exact ⟨v, H', J.os, J.bare, J.base, J.hok, rv, q⟩
  | brk =>
    obtain ⟨_, _, _, no⟩ := post
    cases no
  | cont =>
    obtain ⟨_, _, _, no⟩ := post
    cases no

/-- the law's call at its own place: nothing is under way there -/
theorem lawG {mb : Str → Option Value} {k : Nat} {fa a : Addr} {fd : FuncData} {x : Str} {sp : Sp}
    {s : Shared} {vs : List Value} {ns : List Int}
    (kin : K.In s.heap) (glo : s.heap.Ns mainGlobals mg) (blt : s.heap.Ns builtinsNs mb)
    (boot : ∀ x : Str, x ≠ "__name__" → mb x = bootBuiltins x) (nol : s.heap.NoLimit) (gen : s.gens = #[])
    (obj : s.heap.get? a = some { cls := .type "list", data := .seq vs.toArray }) (insc : IntsAre vs ns)
    (short : ns.length ≤ sizeLine) (rm : Room k callerA)
    (F : ∀ base : Heap, K.In base → base.Ns mainGlobals mg → FnGd P w K mg base k fa fd [x] sp)
    (bnd : ∀ (s : Shared) (u : Value), BindsTo s fd ⟨[u], []⟩ [(x, u)])
    (pre : ∀ H : Hp, SqL K H a (ns.map V.int) → sp [.ref a] H (fun v _ => v = .bl true) E0) :
    codeAny (model P w) callerA (.call (.ref fa) ⟨[.ref a], []⟩)
      (fun r s' => r = .ok (.ret (.bool true)) ∧ OldK s.heap s'.heap ∧ s'.os = s.os ∧ AllBare s'.gens) s := by
  have rel : Vals (ns.map V.int) vs := vals_ints insc
  have cnt : vs.length = ns.length := insc.length
  let scr : Obj := { cls := .type "list", data := .seq vs.toArray }
  -- what is tracked at first: the script, unless the module knows it
  let H : Hp := fun b => if b = a ∧ K.lookup a = none then some (.frz scr (.lst (ns.map V.int))) else none
  have track : ∀ b u, H b = some u → b = a ∧ K.lookup a = none ∧ u = .frz scr (.lst (ns.map V.int)) := by
    intro b u e
    by_cases c : b = a ∧ K.lookup a = none
    · have e2 : some (HO.frz scr (.lst (ns.map V.int))) = some u := (if_pos c).symm.trans e
      exact ⟨c.1, c.2, (Option.some.inj e2).symm⟩
    · have e2 : (none : Option HO) = some u := (if_neg c).symm.trans e
      cases e2
  have isl : SqL K H a (ns.map V.int) := by
    cases q : K.lookup a with
    | none => exact .inl (.inr ⟨scr, if_pos ⟨rfl, q⟩⟩)
    | some o =>
      have o2 := kin a o q
      rw [obj] at o2
      cases o2
      exact .inr ⟨_, vs.toArray, _, q, rfl, rfl, rfl, by rw [List.size_toArray, cnt]; exact short, by simpa using rel⟩
  have hok : HOk P w H s.heap := by
    intro b u e
    obtain ⟨rfl, _, rfl⟩ := track b u e
    exact ⟨obj, by rw [List.length_map]; exact short, vs, _, rel, obj⟩
  have nodict : ∀ {b : Addr} {o : Obj} {es : Array DictEntry} {ep : Nat}, s.heap.get? b = some o → o.data = .dict es ep → H b = none := by
    intro b o es ep e d
    cases q : H b with
    | none => rfl
    | some u =>
      obtain ⟨rfl, _, _⟩ := track b u q
      rw [obj] at e
      cases e
      cases (show Data.seq vs.toArray _ = Data.dict es ep from d)
  have nspace : ∀ {b : Addr} {m : Str → Option Value}, s.heap.Ns b m → (hidT s.heap H).Ns b m := by
    rintro b m ⟨o, es, ep, e, d, r⟩
    exact ⟨o, es, ep, hidT_get e (nodict e d), d, r⟩
  have kin2 : K.In (hidT s.heap H) := by
    intro b o e
    refine hidT_get (kin b o e) ?_
    cases q : H b with
    | none => rfl
    | some u =>
      obtain ⟨rfl, n, _⟩ := track b u q
      rw [n] at e
      cases e
  have mod : Mod K mg (hidT s.heap H) := by
    refine ⟨kin2, nspace glo, ⟨mb, nspace blt, boot⟩, ?_⟩
    obtain ⟨mc, n1, n2⟩ := nol
    exact ⟨mc, nspace n1, n2⟩
  have env : Env0 P w K mg (hidT s.heap H) callerA [] s H := by
    refine ⟨rfl, mod, fun b o e => of_hidT e, Nat.le_of_eq (hidT_size _ _), trivial, ?_, hok, .of_eq gen⟩
    intro b m
    cases (show b ∈ ([] : List Addr) from m)
  have run := (F _ kin2 (nspace glo)).run callerA [] s H ⟨[.ref a], []⟩ [.ref a] [.ref a] _ _ rfl rm env
    (bnd s (.ref a)) (.cons rfl .nil) (pre H isl)
  refine codeAny_mono run ?_
  intro r s' post
  cases r with
  | error e => exact (post : False).elim
  | ok fl =>
    cases fl with
    | ret u =>
      obtain ⟨v, H', os, bare, un, hok', rv, vt⟩ := post
      have vt' : v = .bl true := vt
      subst vt'
      have ut : u = Value.bool true := rv
      subst ut
      refine ⟨rfl, OldK.of_keep ?_, os, bare⟩
      intro b o e
      cases q : H b with
      | none => exact un.keep b o e q (fun m => by cases (show b ∈ ([] : List Addr) from m)) (by simp)
      | some u2 =>
        obtain ⟨rfl, _, rfl⟩ := track b u2 q
        have stays := un.frzs b _ _ q
        have o1 := (hok b _ q).1
        have o2 := (hok' b _ stays).1
        rw [e] at o1
        cases o1
        exact o2
    | next => exact (post : False).elim
    | brk => exact (post : False).elim
    | cont => exact (post : False).elim
end

/-- the end of a law's proof -/
theorem walkG {l : PySem.W.OpenLaw} {n k : Nat} {q : Program} {loose : List Str} {XP : (Str → Option Value) → Heap → Prop}
    {YP : World → Heap → Prop} {d : DefRec} {K : Params → PySem.W.Frag} {sp : World → Sp} {x : Str}
    (most : l.most = some n) (small : n ≤ sizeLine) (plain : d.params.defaults = []) (rm : Room k callerA)
    (hY : ∀ (w : World) (h : Heap), YP w h → (K w.params).In h)
    (F : ∀ (w : World) (mg : Str → Option Value) (fa : Addr) (h : Heap),
      (K w.params).In h → h.Ns mainGlobals mg → mg d.name = some (.ref fa) →
      ∃ fd : FuncData, (∀ (s : Shared) (u : Value), BindsTo s fd ⟨[u], []⟩ [(x, u)]) ∧
        ∀ base : Heap, (K w.params).In base → base.Ns mainGlobals mg →
          FnGd l.prog w (K w.params) mg base k fa fd [x] (sp w))
    (pre : ∀ (w : World) (H : Hp) (a : Addr) (ns : List Int), ns.length ≤ n → (∀ z ∈ ns, Builtin.Int.intBits z ≤ 1048576) →
      SqL (K w.params) H a (ns.map V.int) → sp w [.ref a] H (fun v _ => v = .bl true) E0) :
    PySem.W.WalkO q loose XP YP l.row.toRowW d [] (fun f vs => PySem.call f vs) := by
  apply Att.attach_callB most plain
  intro w s0 s1 mg mb fa o pm cd doc a vs ns G Y _ _ _ named obj insc le bits gen
  obtain ⟨fd, bnd, all⟩ := F w mg fa _ (hY w _ Y) G.T.g named
  exact lawG (hY w _ Y) G.T.g G.T.b G.T.builtins G.T.nolimit gen obj insc (Nat.le_trans le small) rm all bnd
    fun H isl => pre w H a ns le bits isl

/-! ### rules -/
section
variable {X : Cx}
/-- repr of data -/
theorem call_repr {k : Nat} (gd : X.A.guards = some []) (hr : Room k X.A) : CallR X (.builtin "repr") (fun xs H Q => ∃ v d, xs = [v] ∧
    Dp X.K H v d ∧ d.hasDict = false ∧ d.showable = true ∧ d.depth ≤ 64 ∧ d.shown.length ≤ sizeLine ∧ (∃ a, v = .ref a) ∧ Q (.str d.shown) H) := by
  intro pins s σ H xs us Q I r h
  obtain ⟨v, d, rfl, dp, nod, sh, deep, fits, ⟨a, rfl⟩, q⟩ := h
  obtain ⟨u, rfl, ru⟩ := vals1 r
  cases ru
  obtain ⟨as, rd⟩ := Dp.reads I d _ _ dp rfl
  have room := hr.un
  refine repr_of_reads' rd sh (PyData.noDict_hsm nod) gd (by omega) (fun _ _ e => e) ?_ fits
  intro h' u tk keep
  exact ⟨.str _, H, I.kept keep, ⟨u, rfl⟩, q⟩
/-- i ** j, of great i -/
def CPowW (i j : Int) : Prop := 0 ≤ j ∧ (Builtin.Int.intBits i : Int) * j ≤ 2 ^ 27
theorem op_powW : OpR X (binaryOp .Pow) (rI CPowW fun i j => .int (i ^ j.toNat)) :=
  opI fun _ _ _ _ _ _ _ hc q => pow_int hc.1 hc.2 q
end
end Gd

set_option Elab.async false
set_option linter.all false
set_option maxRecDepth 100000
namespace Gd
open PySem PySem.Spec PyProof.Rows L2

/-! ### a def of the text, with all that a caller needs -/
structure Dn (P : Program) (w : World) (K : PySem.W.Frag) (mg : Str → Option Value) (base : Heap)
    (k : Nat) (x : Str) (st : Stmt) (ps : List Str) (sp : Sp) : Prop where
  ex : ∃ f fd, Fun K x x st f fd ∧ Binds K fd ps [] ∧ mg x = some (.ref f) ∧ FnOk P w K mg base CX0 k f fd ps sp
structure DnG (P : Program) (w : World) (K : PySem.W.Frag) (mg : Str → Option Value) (base : Heap)
    (k : Nat) (x : Str) (st : Stmt) (ps : List Str) (sp : Sp) : Prop where
  ex : ∃ f fd, Fun K x x st f fd ∧ Binds K fd ps [] ∧ mg x = some (.ref f) ∧ FnGd P w K mg base k f fd ps sp
section
variable {P : Program} {w : World} {K : PySem.W.Frag} {mg : Str → Option Value} {base : Heap}
/-- where a def stands -/
def At (K : PySem.W.Frag) (mg : Str → Option Value) (x : Str) (st : Stmt) (ps : List Str) : Prop :=
  ∃ f fd, Fun K x x st f fd ∧ Binds K fd ps [] ∧ mg x = some (.ref f)
theorem Dn.mk' {x : Str} {st : Stmt} {ps : List Str} {k : Nat} {sp : Sp} (h : At K mg x st ps)
    (ok : ∀ f fd, Fun K x x st f fd → FnOk P w K mg base CX0 k f fd ps sp) : Dn P w K mg base k x st ps sp := by
  obtain ⟨f, fd, F, b, g⟩ := h
  exact ⟨f, fd, F, b, g, ok f fd F⟩
theorem DnG.mk' {x : Str} {st : Stmt} {ps : List Str} {k : Nat} {sp : Sp} (h : At K mg x st ps)
    (ok : ∀ f fd, Fun K x x st f fd → FnGd P w K mg base k f fd ps sp) : DnG P w K mg base k x st ps sp := by
  obtain ⟨f, fd, F, b, g⟩ := h
  exact ⟨f, fd, F, b, g, ok f fd F⟩
end

/-- the reading of a call that raises nothing -/
def tCl (sp : Sp) (t : TA) : TE := fun σ H Q => t σ H fun vs H1 => sp vs H1 Q E0
def tClK (sp : Sp) (gV : List V → List V → List V) (t tk : TA) : TE := fun σ H Q => t σ H fun vs H1 => tk σ H1 fun zs H2 => sp (gV vs zs) H2 Q E0
section
variable {K : PySem.W.Frag} {x qual : Str} {st : Stmt} {f : Addr} {fd : FuncData} {ps ks : List Str}
theorem kb_of0 (n : Nat) (F : Fun K x qual st f fd) (g : {α : Type} → List α → List α → List α)
    (h : ∀ (kV doc pm : Value) (an : Option Addr) (cdv ct : Value) (us ws : List Value), us.length = n → ws.length = ks.length →
      bindArgs (PySem.W.fnOf x qual (defArgs st) (defBody st) (defScope st) .none kV doc pm an cdv ct) ⟨us, ks.zip ws⟩ = pure (ps.zip (g us ws))) :
    ∀ (s : Shared) (us ws : List Value), us.length = n → ws.length = ks.length → BindsTo s fd ⟨us, ks.zip ws⟩ (ps.zip (g us ws)) := by
  obtain ⟨oc, od, kV, doc, pm, an, cdv, ct, osl, rfl, lk, hcd⟩ := F.ex
  intro s us ws h1 h2
  exact .of_eq (h kV doc pm an cdv ct us ws h1 h2)
end
section
variable {X : Cx} {x : Str} {st : Stmt} {ps ks : List Str} {sp : Sp} {k j n : Nat} {e : Expr} {es : List Expr} {kws : List Keyword} {t tk : TA} {p pos : Pos}
/-- a call of a def that has its promise -/
theorem pe_c (D : Dn X.prog X.w X.K X.mg X.base k x st ps sp) (hr : Room j X.A) (hg : Gl X x) (ha : PA X (e :: es) t) (hk : k ≤ j := by decide)
    (hdb : (x == ("__debug__" : Str)) = false := by decide) (he : starEach (e :: es) X.env = (false, eval e X.env) :: starEach es X.env := by rfl)
    (hpl : (backTo pos (starEach es X.env)).any (·.1) = false := by rfl) :
    PE X (.Call (.Name x p) (e :: es) [] pos) (tCl sp t) := by
  obtain ⟨f, fd, F, b, g, ok⟩ := D.ex
  refine ⟨fun pins s σ H Q I h => ?_⟩
  refine wpAny_Call_Name_kw (ld_glob I hg g ?_ hdb)
  refine PySem.W.callWith_K (h₀ := X.base) I.ok.mod.kin F.kp (thn (ha.run pos pins s σ H _ I h) fun us s1 got => ?_) he hpl
  obtain ⟨vs, H1, I1, r1, q1⟩ := got
  refine ⟨I1.kIn, ?_⟩
  exact run_fn (dvs := []) ok (hr.mono hk) b .nil pass0 I1 r1 (by rw [List.append_nil]; exact q1)
theorem pe_cG (gd : X.A.guards = some []) (D : DnG X.prog X.w X.K X.mg X.base k x st ps sp) (hr : Room j X.A) (hg : Gl X x) (ha : PA X (e :: es) t) (hk : k ≤ j := by decide)
    (hdb : (x == ("__debug__" : Str)) = false := by decide) (he : starEach (e :: es) X.env = (false, eval e X.env) :: starEach es X.env := by rfl)
    (hpl : (backTo pos (starEach es X.env)).any (·.1) = false := by rfl) :
    PE X (.Call (.Name x p) (e :: es) [] pos) (tCl sp t) := by
  obtain ⟨f, fd, F, b, g, ok⟩ := D.ex
  refine ⟨fun pins s σ H Q I h => ?_⟩
  refine wpAny_Call_Name_kw (ld_glob I hg g ?_ hdb)
  refine PySem.W.callWith_K (h₀ := X.base) I.ok.mod.kin F.kp (thn (ha.run pos pins s σ H _ I h) fun us s1 got => ?_) he hpl
  obtain ⟨vs, H1, I1, r1, q2⟩ := got
  refine ⟨I1.kIn, ?_⟩
  have cnt : us.length = ps.length := by
    rw [← r1.length]
    exact ok.len _ _ _ _ q2
  have bnd : BindsTo s1 fd ⟨us, []⟩ (ps.zip us) := by
    have z := b s1 us I1.kIn (by simpa using cnt)
    simpa using z
  refine wpAny_call (codeAny_mono (ok.run X.A X.stack s1 H1 ⟨us, []⟩ us vs _ E0 gd (hr.mono hk) I1.env0 bnd r1 q2) ?_)
  intro r s' post
  cases r with
  | error e => exact (post : False).elim
  | ok fl =>
    cases fl with
    | ret u => exact I1.after post
    | next => exact (post : False).elim
    | brk => exact (post : False).elim
    | cont => exact (post : False).elim
/-- how the keywords bind -/
def KwTo (K : PySem.W.Frag) (x : Str) (st : Stmt) (ps ks : List Str) (n : Nat) (g : {α : Type} → List α → List α → List α) : Prop :=
  (∀ {vs zs : List V} {us ws : List Value}, vs.length = n → zs.length = ks.length → Vals vs us → Vals zs ws → Vals (g vs zs) (g us ws)) ∧
  ∀ f fd, Fun K x x st f fd → ∀ (s : Shared) (us ws : List Value), us.length = n → ws.length = ks.length → BindsTo s fd ⟨us, ks.zip ws⟩ (ps.zip (g us ws))
def tClN (n m : Nat) (sp : Sp) (gV : List V → List V → List V) (t tk : TA) : TE := fun σ H Q => t σ H fun vs H1 => tk σ H1 fun zs H2 => vs.length = n ∧ zs.length = m ∧ sp (gV vs zs) H2 Q E0
/-- f(k = v, ..) -/
theorem pe_cz {g : {α : Type} → List α → List α → List α} (D : Dn X.prog X.w X.K X.mg X.base k x st ps sp) (hr : Room j X.A) (kb : KwTo X.K x st ps ks 0 g) (hg : Gl X x) (hkw : PK X kws tk) (hk : k ≤ j := by decide)
    (hall : (backToKw pos (keywordEach kws X.env)).all (·.1.isSome) = true := by rfl) (hks : (backToKw pos (keywordEach kws X.env)).filterMap (·.1) = ks := by rfl)
    (hdb : (x == ("__debug__" : Str)) = false := by decide)
    (hpl : ((backTo pos (starEach [] X.env)).any (·.1) || (backToKw pos (keywordEach kws X.env)).any (·.1.isNone)) = false := by rfl) :
    PE X (.Call (.Name x p) [] kws pos) (tClN 0 ks.length sp g tNil tk) := by
  obtain ⟨f, fd, F, b, gg, ok⟩ := D.ex
  refine ⟨fun pins s σ H Q I h => ?_⟩
  refine wpAny_Call_Name_kw (ld_glob I hg gg ?_ hdb)
  refine PySem.W.callWith_KW0 (h₀ := X.base) I.ok.mod.kin F.kp hall ?_ hpl
  refine thn (hkw.run pos pins s σ H _ I h) fun ws s2 got => ?_
  obtain ⟨zs, H2, I2, rz, l1, l2, q2⟩ := got
  refine ⟨I2.kIn, ?_⟩
  rw [hks]
  have rel := kb.1 l1 l2 Paired.nil rz
  have bnd := kb.2 f fd F s2 [] ws rfl (rz.length.symm.trans l2)
  refine wpAny_call (codeAny_mono (ok.run X.A X.stack s2 H2 ⟨[], ks.zip ws⟩ _ _ _ E0 (hr.mono hk) I2.env0 bnd rel q2) ?_)
  intro r s' post
  cases r with
  | error e => exact (post : False).elim
  | ok fl =>
    cases fl with
    | ret u => exact I2.after post
    | next => exact (post : False).elim
    | brk => exact (post : False).elim
    | cont => exact (post : False).elim
end

/-! ### heaps: all but the draws' list stays -/
def Kp (a : Addr) (H H' : Hp) : Prop := ∀ b o, b ≠ a → H b = some o → H' b = some o
theorem Kp.refl {a : Addr} {H : Hp} : Kp a H H := fun _ _ _ e => e
theorem Kp.trans {a : Addr} {H H1 H2 : Hp} (x : Kp a H H1) (y : Kp a H1 H2) : Kp a H H2 := fun b o n e => y b o n (x b o n e)
theorem Kp.of {a : Addr} {H H' : Hp} (x : Same H H') : Kp a H H' := fun b o _ e => x b o e
theorem Kp.at {a : Addr} {H : Hp} {o : HO} : Kp a H (upd H a o) := fun b u n e => by rw [upd_ne n]; exact e
theorem Kp.new {a p : Addr} {H : Hp} {o : HO} (n : H p = none) : Kp a H (upd H p o) := fun b u _ e => by rw [upd_ne (ne_of_none e n)]; exact e
theorem Same.new {p : Addr} {H : Hp} {o : HO} (n : H p = none) : Same H (upd H p o) := fun b u e => by rw [upd_ne (ne_of_none e n)]; exact e
theorem SqT.same {K : PySem.W.Frag} {H H' : Hp} {b : Addr} {xs : List V} (k : Same H H') (h : SqT K H b xs) : SqT K H' b xs := by
  rcases h with (h | ⟨o, h⟩) | h
  · exact .inl (.inl (k _ _ h))
  · exact .inl (.inr ⟨o, k _ _ h⟩)
  · exact .inr h
/-- the draws' state: its list of three ints, after at most n draws -/
structure RS (n : Nat) (H : Hp) (a : Addr) : Prop where
  ok : ∃ d s t : Int, H a = some (.lst [.int d, .int s, .int t]) ∧ 0 ≤ d ∧ d.natAbs < 2 ^ 13000 ∧ 0 ≤ s ∧ s < 2305843009213693951 ∧ 0 ≤ t ∧ t ≤ n
theorem RS.mono {n m : Nat} {H : Hp} {a : Addr} (h : n ≤ m) (r : RS n H a) : RS m H a := by
  obtain ⟨d, s, t, e, h1, h2, h3, h4, h5, h6⟩ := r.ok
  exact ⟨d, s, t, e, h1, h2, h3, h4, h5, by omega⟩
theorem RS.same {n : Nat} {H H' : Hp} {a : Addr} (r : RS n H a) (k : Same H H') : RS n H' a := by
  obtain ⟨d, s, t, e, r⟩ := r.ok
  exact ⟨d, s, t, k _ _ e, r⟩
theorem RS.ne {n : Nat} {H : Hp} {a b : Addr} {o : HO} (r : RS n H a) (e : H b = some o) (no : ∀ xs, o ≠ .lst xs) : b ≠ a := by
  obtain ⟨d, s, t, e2, _⟩ := r.ok
  exact ne_of e e2 (no _)
theorem SqT.kp {K : PySem.W.Frag} {n : Nat} {H H' : Hp} {a b : Addr} {xs : List V} (r : RS n H a) (k : Kp a H H') (h : SqT K H b xs) : SqT K H' b xs := by
  rcases h with (h | ⟨o, h⟩) | h
  · exact .inl (.inl (k _ _ (r.ne h (fun _ z => by cases z)) h))
  · exact .inl (.inr ⟨o, k _ _ (r.ne h (fun _ z => by cases z)) h⟩)
  · exact .inr h

/-! ### ranges -/
abbrev Rg := Option (Option Int × Option Int)
def ov : Option Int → V
  | none => .non
  | some i => .int i
def RgV (K : PySem.W.Frag) (H : Hp) (v : V) : Rg → Prop
  | none => v = .non
  | some (l, h) => ∃ p, v = .ref p ∧ SqT K H p [ov l, ov h]
theorem RgV.same {K : PySem.W.Frag} {H H' : Hp} {v : V} {r : Rg} (k : Same H H') (h : RgV K H v r) : RgV K H' v r := by
  cases r with
  | none => exact h
  | some q =>
    obtain ⟨p, e, s⟩ := h
    exact ⟨p, e, SqT.same k s⟩
theorem RgV.kp {K : PySem.W.Frag} {n : Nat} {H H' : Hp} {a : Addr} {v : V} {r : Rg} (rs : RS n H a) (k : Kp a H H') (h : RgV K H v r) : RgV K H' v r := by
  cases r with
  | none => exact h
  | some q =>
    obtain ⟨p, e, s⟩ := h
    exact ⟨p, e, SqT.kp rs k s⟩
/-- Range check accepts it -/
def RgFit : Rg → Prop
  | some (some l, some h) => l ≤ h
  | _ => True
end Gd

set_option Elab.async false
set_option linter.all false
set_option maxRecDepth 100000
namespace Gd
open PySem PySem.Spec PyProof.Rows L2

theorem inV_ints (z : Int) : ∀ ns : List Int, inV (.int z) (ns.map V.int) = decide (z ∈ ns)
  | [] => rfl
  | n :: ns => by
    have ih := inV_ints z ns
    unfold inV at ih ⊢
    rw [List.map_cons, List.any_cons, ih]
    show ((n == z) || decide (z ∈ ns)) = decide (z ∈ n :: ns)
    by_cases h : n = z
    · subst h
      simp
    · have h2 : ¬ z = n := fun e => h e.symm
      simp [h, h2]
theorem flat_ints : ∀ ns : List Int, (ns.map V.int).all flatV = true
  | [] => rfl
  | _ :: ns => flat_ints ns
theorem dp_ints {K : PySem.W.Frag} {H : Hp} : ∀ ns : List Int, DpAll K H (ns.map V.int) (ns.map PyData.int)
  | [] => .nil
  | n :: ns => .cons (.int n) (dp_ints ns)
theorem canLay_ints : ∀ ns : List Int, PyData.canLayAll0 (ns.map PyData.int) = true
  | [] => rfl
  | n :: ns => by
    rw [List.map_cons]
    unfold PyData.canLayAll0
    rw [canLay_ints ns]
    rfl
theorem depth_ints : ∀ ns : List Int, PyData.depthAll (ns.map PyData.int) ≤ 1
  | [] => by simp [PyData.depthAll]
  | n :: ns => by
    have ih := depth_ints ns
    simp only [List.map_cons, PyData.depthAll, PyData.depth]
    omega
theorem shaped_ints (ns : List Int) : SeqAt.shaped (.list (ns.map PyData.int)) = true := by
  unfold SeqAt.shaped
  have h1 : PyData.canLay0 (.list (ns.map PyData.int)) = true := by
    have e : PyData.canLay0 (.list (ns.map PyData.int)) = PyData.canLayAll0 (ns.map PyData.int) := by simp [PyData.canLay0]
    rw [e]
    exact canLay_ints ns
  have h2 : PyData.depth (.list (ns.map PyData.int)) ≤ 64 := by
    have := depth_ints ns
    simp only [PyData.depth]
    omega
  rw [h1, decide_eq_true h2]
  rfl
theorem eqv_ints_nil (ns : List Int) : PyData.eqv (.list (ns.map PyData.int)) (.list []) = decide (ns = []) := by
  cases ns with
  | nil => simp [PyData.eqv, PyData.eqvAll]
  | cons n ns => simp [PyData.eqv, PyData.eqvAll]
/-- [x for x in xs if test] over ints, the test a function of the int -/
theorem lc_filter {K : PySem.W.Frag} {j : Nat} {tt : TT} {σ : L2.St} {H : Hp} {Qd : Hp → Prop} {a D : Addr} (ns : List Int) (p : Int → Bool)
    (hl : SqL K H a (ns.map V.int)) (hz : ns.length ≤ 100000) (nD : H D = none)
    (hw : ∀ z : Int, wipe ((wipe σ [j]).set j (some (.int z))) [j] = wipe σ [j])
    (hg : ∀ z : Int, ((wipe σ [j]).set j (some (.int z)))[j]? = some (some (.int z)))
    (ht : ∀ (z : Int) (H' : Hp) (R : Bool → Hp → Prop), Same H H' → R (p z) H' → tt ((wipe σ [j]).set j (some (.int z))) H' R)
    (q : Qd (upd H D (.lst ((ns.filter p).map V.int)))) :
    ∃ Z : Nat → Nat → Hp → Prop, (∃ m, Z 0 m (upd H D (.lst []))) ∧
      ∀ i m G, Z i m G →
        ((Itl K a).stop i G ∧ Qd G) ∨
        ((Itl K a).go i G ∧ ∃ N : Hp → Prop, (∀ G', N G' → ∃ m', m' < m ∧ Z (i + 1) m' G') ∧
          ∀ x G', (Itl K a).yld i G x G' →
            gName j x (wipe σ [j]) G' fun σ2 G2 =>
              wipe σ2 [j] = wipe σ [j] ∧
              tt σ2 G2 fun b G3 =>
                if b = true then
                  tVar j σ2 G3 fun y G4 =>
                    ∃ acc, G4 D = some (.lst acc) ∧ acc.length < sizeLine ∧
                      N (upd G4 D (.lst (acc ++ [y])))
                else N G3) := by
  refine lc_list (K := K) (a := a) (xs := ns.map V.int) (fun i H' => H' = upd H D (.lst (((ns.take i).filter p).map V.int))) rfl ?_ ?_ ?_
  · intro i H' _ e
    subst e
    exact (Same.new nD).seq hl
  · intro i x H' hx e
    subst e
    rw [List.getElem?_map] at hx
    cases c : ns[i]? with
    | none =>
      rw [c] at hx
      cases hx
    | some z =>
      rw [c] at hx
      have ex : V.int z = x := Option.some.inj hx
      subst ex
      have lt : i < ns.length := (List.getElem?_eq_some_iff.mp c).1
      have tk : (ns.take (i + 1)).filter p = (ns.take i).filter p ++ (if p z = true then [z] else []) := by
        rw [List.take_add_one, c]
        show ((ns.take i) ++ [z]).filter p = _
        rw [List.filter_append]
        by_cases c2 : p z = true
        · rw [if_pos c2]; simp [c2]
        · rw [if_neg c2]; simp [c2]
      refine ⟨hw z, ht z _ _ (Same.new nD) ?_⟩
      by_cases c2 : p z = true
      · rw [c2]
        refine iteT ⟨_, hg z, _, upd_same, ?_, ?_⟩
        · rw [List.length_map]
          have h1 : ((ns.take i).filter p).length ≤ (ns.take i).length := List.length_filter_le _ _
          have h2 : (ns.take i).length ≤ ns.length := List.length_take_le' ..
          exact Nat.lt_of_le_of_lt (Nat.le_trans (Nat.le_trans h1 h2) hz) (by decide)
        · rw [upd_upd, tk, if_pos c2, List.map_append]
          rfl
      · have c3 : p z = false := by simpa using c2
        rw [c3]
        refine iteF ?_
        show upd H D _ = upd H D _
        rw [tk, if_neg c2, List.append_nil]
  · intro H' e
    subst e
    rw [List.length_map, List.take_length]
    exact q
end Gd

set_option Elab.async false
set_option linter.all false
set_option maxRecDepth 100000
set_option autoImplicit false
namespace Gd
open PySem PySem.Spec PyProof.Rows L2

/-! ### data whose text is short -/
structure DOk (n k : Nat) (d : PyData) : Prop where
  short : d.leavesShort 62 = true
  bulk : d.bulk ≤ n
  nod : d.hasDict = false
  shw : d.showable = true
  lay : d.canLay0 = true
  deep : d.depth ≤ k
structure DAll (n k : Nat) (ds : List PyData) : Prop where
  short : PyData.leavesShortAll 62 ds = true
  bulk : PyData.bulkAll ds ≤ n
  nod : PyData.hasDictAll ds = false
  shw : PyData.showableAll ds = true
  lay : PyData.canLayAll0 ds = true
  deep : PyData.depthAll ds ≤ k
theorem DOk.mono {n m k j : Nat} {d : PyData} (h : DOk n k d) (a : n ≤ m) (b : k ≤ j) : DOk m j d :=
  ⟨h.short, Nat.le_trans h.bulk a, h.nod, h.shw, h.lay, Nat.le_trans h.deep b⟩
theorem DAll.mono {n m k j : Nat} {ds : List PyData} (h : DAll n k ds) (a : n ≤ m) (b : k ≤ j) : DAll m j ds :=
  ⟨h.short, Nat.le_trans h.bulk a, h.nod, h.shw, h.lay, Nat.le_trans h.deep b⟩
theorem DOk.none : DOk 0 1 .none := ⟨rfl, Nat.le_refl _, rfl, rfl, rfl, by simp [PyData.depth]⟩
theorem DOk.bool (b : Bool) : DOk 0 1 (.bool b) := ⟨rfl, Nat.le_refl _, rfl, rfl, rfl, by simp [PyData.depth]⟩
theorem DOk.int {i : Int} (h : i.natAbs < 10 ^ 60) : DOk 0 1 (.int i) := by
  refine ⟨?_, Nat.le_refl _, rfl, ?_, rfl, by simp [PyData.depth]⟩
  · have e := int_text_length_le10 (k := 60) (by decide) h
    unfold PyData.leavesShort
    refine decide_eq_true ?_
    show (Str.ofString (toString i)).length ≤ 62
    rw [PySem.ofString_length]
    omega
  · unfold PyData.showable
    refine decide_eq_true ?_
    have h2 : i.natAbs < 2 ^ 200 := Nat.lt_trans h (by decide)
    have := PySem.Flt.log2_lt_of (k := 200) (by decide) h2
    omega
theorem DOk.str {x : Str} (h1 : (x.cps.toList.all fun c => decide (c < 16 ^ 8)) = true) (h2 : x.cps.size ≤ 20) (h3 : PyData.canLay0 (.str x) = true) : DOk 20 1 (.str x) :=
  ⟨by unfold PyData.leavesShort; exact h1, by unfold PyData.bulk; exact h2, rfl, rfl, h3, by simp [PyData.depth]⟩
theorem DAll.nil : DAll 0 0 [] := ⟨rfl, Nat.le_refl _, rfl, rfl, rfl, by simp [PyData.depthAll]⟩
theorem DAll.cons {n m k j : Nat} {d : PyData} {ds : List PyData} (h : DOk n k d) (t : DAll m j ds) : DAll (n + 1 + m) (max k j) (d :: ds) := by
  refine ⟨?_, ?_, ?_, ?_, ?_, ?_⟩
  · unfold PyData.leavesShortAll; rw [h.short, t.short]; rfl
  · unfold PyData.bulkAll; have := h.bulk; have := t.bulk; omega
  · unfold PyData.hasDictAll; rw [h.nod, t.nod]; rfl
  · unfold PyData.showableAll; rw [h.shw, t.shw]; rfl
  · unfold PyData.canLayAll0; rw [h.lay, t.lay]; rfl
  · unfold PyData.depthAll; have := h.deep; have := t.deep; omega
theorem DOk.list {n k : Nat} {ds : List PyData} (t : DAll n k ds) : DOk n (k + 1) (.list ds) := by
  refine ⟨?_, ?_, ?_, ?_, ?_, ?_⟩
  · unfold PyData.leavesShort; exact t.short
  · unfold PyData.bulk; exact t.bulk
  · unfold PyData.hasDict; exact t.nod
  · unfold PyData.showable; exact t.shw
  · unfold PyData.canLay0; exact t.lay
  · unfold PyData.depth; have := t.deep; omega
theorem DOk.tuple {n k : Nat} {ds : List PyData} (t : DAll n k ds) : DOk n (k + 1) (.tuple ds) := by
  refine ⟨?_, ?_, ?_, ?_, ?_, ?_⟩
  · unfold PyData.leavesShort; exact t.short
  · unfold PyData.bulk; exact t.bulk
  · unfold PyData.hasDict; exact t.nod
  · unfold PyData.showable; exact t.shw
  · unfold PyData.canLay0; exact t.lay
  · unfold PyData.depth; have := t.deep; omega
theorem DOk.fits {n k : Nat} {d : PyData} (h : DOk n k d) (hn : n ≤ 200000) : d.shown.length ≤ sizeLine := by
  have e := PyData.shown_le_bulk 62 (by decide) d h.short
  have b := h.bulk
  have s : sizeLine = 16777216 := by decide
  omega
theorem DOk.shaped {n k : Nat} {d : PyData} (h : DOk n k d) (hk : k ≤ 64) : SeqAt.shaped d = true := by
  unfold SeqAt.shaped
  rw [h.lay, decide_eq_true (Nat.le_trans h.deep hk)]
  rfl
theorem DOk.eqv {n k : Nat} {d : PyData} (h : DOk n k d) : PyData.eqv d d = true := SeqAt.eqv_refl d h.lay
section
variable {X : Cx}
/-- repr of data that is short -/
theorem call_reprD {k : Nat} (gd : X.A.guards = some []) (hr : Room k X.A) : CallR X (.builtin "repr") (fun xs H Q => ∃ v d n k, xs = [v] ∧
    Dp X.K H v d ∧ DOk n k d ∧ n ≤ 200000 ∧ k ≤ 64 ∧ (∃ a, v = .ref a) ∧ Q (.str d.shown) H) := by
  intro pins s σ H xs us Q I r h
  obtain ⟨v, d, n, k, e, dp, ok, hn, hk, ex, q⟩ := h
  exact call_repr gd hr pins s σ H xs us Q I r ⟨v, d, e, dp, ok.nod, ok.shw, Nat.le_trans ok.deep hk, ok.fits hn, ex, q⟩
end

/-! ### draws -/
theorem RS.fresh {n : Nat} {H : Hp} {g p : Addr} (r : RS n H g) (np : H p = none) : p ≠ g := fun z => by
  obtain ⟨_, _, _, e, _⟩ := r.ok
  rw [← z, np] at e
  cases e
theorem pick_mem {xs : List V} {d : Int} (h0 : 0 ≤ d) (h1 : d < (xs.length : Int)) : ∃ v, atI xs d = some v ∧ v ∈ xs := by
  have lt : d.toNat < xs.length := by omega
  refine ⟨xs[d.toNat], ?_, List.getElem_mem lt⟩
  exact at_of (j := d.toNat) (by omega) (List.getElem?_eq_getElem lt)
theorem Kp.lst {K : PySem.W.Frag} {H H' : Hp} {g b : Addr} {xs : List V} (k : Kp g H H') (h : b ≠ g) (l : SqL K H b xs) : SqL K H' b xs := by
  rcases l with (h2 | ⟨o, h2⟩) | h2
  · exact .inl (.inl (k _ _ h h2))
  · exact .inl (.inr ⟨o, k _ _ h h2⟩)
  · exact .inr h2
/-- [e for x in xs] over a list; each e is a value of its own (told by f), no matter what else the heap bears -/
theorem lc_map {K : PySem.W.Frag} {j : Nat} {te : TE} {σ : L2.St} {H : Hp} {Qd : Hp → Prop} {a D : Addr} {xs : List V} (f : V → V)
    (hl : SqL K H a xs) (hz : xs.length ≤ 100000) (nD : H D = none)
    (hw : ∀ z : V, wipe ((wipe σ [j]).set j (some z)) [j] = wipe σ [j])
    (he : ∀ (z : V) (H' : Hp) (R : VK), z ∈ xs → Same H H' → R (f z) H' → te ((wipe σ [j]).set j (some z)) H' R)
    (q : Qd (upd H D (.lst (xs.map f)))) :
    ∃ Z : Nat → Nat → Hp → Prop, (∃ m, Z 0 m (upd H D (.lst []))) ∧
      ∀ i m G, Z i m G →
        ((Itl K a).stop i G ∧ Qd G) ∨
        ((Itl K a).go i G ∧ ∃ N : Hp → Prop, (∀ G', N G' → ∃ m', m' < m ∧ Z (i + 1) m' G') ∧
          ∀ x G', (Itl K a).yld i G x G' →
            gName j x (wipe σ [j]) G' fun σ2 G2 =>
              wipe σ2 [j] = wipe σ [j] ∧
              tYes σ2 G2 fun b G3 =>
                if b = true then
                  te σ2 G3 fun y G4 =>
                    ∃ acc, G4 D = some (.lst acc) ∧ acc.length < sizeLine ∧
                      N (upd G4 D (.lst (acc ++ [y])))
                else N G3) := by
  refine lc_list (K := K) (a := a) (xs := xs) (fun i H' => H' = upd H D (.lst ((xs.take i).map f))) rfl ?_ ?_ ?_
  · intro i H' _ e
    subst e
    exact (Same.new nD).seq hl
  · intro i x H' hx e
    subst e
    have lt : i < xs.length := (List.getElem?_eq_some_iff.mp hx).1
    have tk : (xs.take (i + 1)).map f = (xs.take i).map f ++ [f x] := by
      rw [List.take_add_one, hx]
      simp
    refine ⟨hw x, ?_⟩
    refine he x _ _ (List.mem_of_getElem? hx) (Same.new nD) ⟨_, upd_same, ?_, ?_⟩
    · rw [List.length_map]
      exact Nat.lt_of_le_of_lt (Nat.le_trans (List.length_take_le' ..) hz) (by decide)
    · rw [upd_upd, tk]
  · intro H' e
    subst e
    rw [List.take_length]
    exact q
/-- [e for x in xs] over a list; e may make objects; each is told by Out of its place -/
theorem lc_rel {K : PySem.W.Frag} {j : Nat} {te : TE} {σ : L2.St} {H : Hp} {Qd : Hp → Prop} {a D : Addr} {xs : List V} (Out : Nat → Hp → V → Prop)
    (hl : SqL K H a xs) (hz : xs.length ≤ 100000) (nD : H D = none)
    (st : ∀ i G G' y acc, Kp D G G' → G D = some (.lst acc) → Out i G y → Out i G' y)
    (hw : ∀ z : V, wipe ((wipe σ [j]).set j (some z)) [j] = wipe σ [j])
    (he : ∀ (i : Nat) (z : V) (G : Hp) (R : VK), xs[i]? = some z → Same H G → (∀ y G', Same G G' → Out i G' y → R y G') → te ((wipe σ [j]).set j (some z)) G R)
    (q : ∀ G ys, Same H G → G D = some (.lst ys) → ys.length = xs.length → (∀ (i : Nat) y, ys[i]? = some y → Out i G y) → Qd G) :
    ∃ Z : Nat → Nat → Hp → Prop, (∃ m, Z 0 m (upd H D (.lst []))) ∧
      ∀ i m G, Z i m G →
        ((Itl K a).stop i G ∧ Qd G) ∨
        ((Itl K a).go i G ∧ ∃ N : Hp → Prop, (∀ G', N G' → ∃ m', m' < m ∧ Z (i + 1) m' G') ∧
          ∀ x G', (Itl K a).yld i G x G' →
            gName j x (wipe σ [j]) G' fun σ2 G2 =>
              wipe σ2 [j] = wipe σ [j] ∧
              tYes σ2 G2 fun b G3 =>
                if b = true then
                  te σ2 G3 fun y G4 =>
                    ∃ acc, G4 D = some (.lst acc) ∧ acc.length < sizeLine ∧
                      N (upd G4 D (.lst (acc ++ [y])))
                else N G3) := by
  refine lc_list (K := K) (a := a) (xs := xs) (fun i G => Same H G ∧ ∃ ys, G D = some (.lst ys) ∧ ys.length = i ∧ ∀ (k : Nat) y, ys[k]? = some y → Out k G y)
    ⟨Same.new nD, [], upd_same, rfl, fun k y e => by simp at e⟩ ?_ ?_ ?_
  · intro i G _ e
    exact e.1.seq hl
  · rintro i x G hx ⟨sm, ys, oD, ly, ok⟩
    have lt : i < xs.length := (List.getElem?_eq_some_iff.mp hx).1
    refine ⟨hw x, ?_⟩
    refine he i x G _ hx sm fun y G' sm' oy => ⟨ys, sm' _ _ oD, Nat.lt_of_le_of_lt (by omega : ys.length ≤ 100000) (by decide), ?_⟩
    have kp : Kp D G' (upd G' D (.lst (ys ++ [y]))) := Kp.at
    refine ⟨fun b o e => ?_, ys ++ [y], upd_same, by rw [List.length_append, ly]; rfl, ?_⟩
    · rw [upd_ne (ne_of_none e nD)]
      exact sm' _ _ (sm _ _ e)
    · intro k y' ey
      by_cases c : k < ys.length
      · rw [List.getElem?_append_left c] at ey
        exact st _ _ _ _ _ kp (sm' _ _ oD) (st _ _ _ _ _ (Kp.of sm') oD (ok k y' ey))
      · have kl : k < (ys ++ [y]).length := (List.getElem?_eq_some_iff.mp ey).1
        rw [List.length_append] at kl
        have kk : k = i := by
          have : ([y] : List V).length = 1 := rfl
          omega
        subst kk
        rw [List.getElem?_append_right (by omega), ly, Nat.sub_self] at ey
        have e1 : y = y' := Option.some.inj ey
        subst e1
        exact st _ _ _ _ _ kp (sm' _ _ oD) oy
  · rintro G ⟨sm, ys, oD, ly, ok⟩
    exact q G ys sm oD ly ok
theorem SqT.kpl {K : PySem.W.Frag} {H H' : Hp} {a b : Addr} {xs ys : List V} (k : Kp a H H') (l : H a = some (.lst ys)) (h : SqT K H b xs) : SqT K H' b xs := by
  rcases h with (h | ⟨o, h⟩) | h
  · exact .inl (.inl (k _ _ (ne_of h l (fun z => by cases z)) h))
  · exact .inl (.inr ⟨o, k _ _ (ne_of h l (fun z => by cases z)) h⟩)
  · exact .inr h
theorem RgV.kpl {K : PySem.W.Frag} {H H' : Hp} {a : Addr} {v : V} {r : Rg} {ys : List V} (k : Kp a H H') (l : H a = some (.lst ys)) (h : RgV K H v r) : RgV K H' v r := by
  match r, h with
  | none, h => exact h
  | some q, ⟨p, e, s⟩ => exact ⟨p, e, SqT.kpl k l s⟩
/-! ### data of any size, for == -/
structure Ly (k : Nat) (d : PyData) : Prop where
  lay : d.canLay0 = true
  deep : d.depth ≤ k
structure LyAll (k : Nat) (ds : List PyData) : Prop where
  lay : PyData.canLayAll0 ds = true
  deep : PyData.depthAll ds ≤ k
theorem Ly.mono {k j : Nat} {d : PyData} (h : Ly k d) (a : k ≤ j) : Ly j d := ⟨h.lay, Nat.le_trans h.deep a⟩
theorem LyAll.mono {k j : Nat} {d : List PyData} (h : LyAll k d) (a : k ≤ j) : LyAll j d := ⟨h.lay, Nat.le_trans h.deep a⟩
theorem Ly.none : Ly 1 .none := ⟨rfl, by simp [PyData.depth]⟩
theorem Ly.bool (b : Bool) : Ly 1 (.bool b) := ⟨rfl, by simp [PyData.depth]⟩
theorem Ly.int (i : Int) : Ly 1 (.int i) := ⟨rfl, by simp [PyData.depth]⟩
theorem LyAll.nil : LyAll 0 [] := ⟨rfl, by simp [PyData.depthAll]⟩
theorem LyAll.cons {k j : Nat} {d : PyData} {ds : List PyData} (h : Ly k d) (t : LyAll j ds) : LyAll (max k j) (d :: ds) := by
  refine ⟨?_, ?_⟩
  · unfold PyData.canLayAll0; rw [h.lay, t.lay]; rfl
  · unfold PyData.depthAll; have := h.deep; have := t.deep; omega
theorem Ly.list {k : Nat} {ds : List PyData} (t : LyAll k ds) : Ly (k + 1) (.list ds) := by
  refine ⟨?_, ?_⟩
  · unfold PyData.canLay0; exact t.lay
  · unfold PyData.depth; have := t.deep; omega
theorem Ly.tuple {k : Nat} {ds : List PyData} (t : LyAll k ds) : Ly (k + 1) (.tuple ds) := by
  refine ⟨?_, ?_⟩
  · unfold PyData.canLay0; exact t.lay
  · unfold PyData.depth; have := t.deep; omega
theorem Ly.shaped {k : Nat} {d : PyData} (h : Ly k d) (hk : k ≤ 64 := by decide) : SeqAt.shaped d = true := by
  unfold SeqAt.shaped
  rw [h.lay, decide_eq_true (Nat.le_trans h.deep hk)]
  rfl
theorem Ly.eqv {k : Nat} {d : PyData} (h : Ly k d) : PyData.eqv d d = true := SeqAt.eqv_refl d h.lay
/-- [e for x in t] over a tuple -/
theorem lc_relT {K : PySem.W.Frag} {j : Nat} {te : TE} {σ : L2.St} {H : Hp} {Qd : Hp → Prop} {a D : Addr} {xs : List V} (Out : Nat → Hp → V → Prop)
    (hl : SqT K H a xs) (hz : xs.length ≤ 100000) (nD : H D = none)
    (st : ∀ i G G' y acc, Kp D G G' → G D = some (.lst acc) → Out i G y → Out i G' y)
    (hw : ∀ z : V, wipe ((wipe σ [j]).set j (some z)) [j] = wipe σ [j])
    (he : ∀ (i : Nat) (z : V) (G : Hp) (R : VK), xs[i]? = some z → Same H G → (∀ y G', Same G G' → Out i G' y → R y G') → te ((wipe σ [j]).set j (some z)) G R)
    (q : ∀ G ys, Same H G → G D = some (.lst ys) → ys.length = xs.length → (∀ (i : Nat) y, ys[i]? = some y → Out i G y) → Qd G) :
    ∃ Z : Nat → Nat → Hp → Prop, (∃ m, Z 0 m (upd H D (.lst []))) ∧
      ∀ i m G, Z i m G →
        ((Itt K a).stop i G ∧ Qd G) ∨
        ((Itt K a).go i G ∧ ∃ N : Hp → Prop, (∀ G', N G' → ∃ m', m' < m ∧ Z (i + 1) m' G') ∧
          ∀ x G', (Itt K a).yld i G x G' →
            gName j x (wipe σ [j]) G' fun σ2 G2 =>
              wipe σ2 [j] = wipe σ [j] ∧
              tYes σ2 G2 fun b G3 =>
                if b = true then
                  te σ2 G3 fun y G4 =>
                    ∃ acc, G4 D = some (.lst acc) ∧ acc.length < sizeLine ∧
                      N (upd G4 D (.lst (acc ++ [y])))
                else N G3) := by
  refine lc_tup (K := K) (a := a) (xs := xs) (fun i G => Same H G ∧ ∃ ys, G D = some (.lst ys) ∧ ys.length = i ∧ ∀ (k : Nat) y, ys[k]? = some y → Out k G y)
    ⟨Same.new nD, [], upd_same, rfl, fun k y e => by simp at e⟩ ?_ ?_ ?_
  · intro i G _ e
    exact SqT.same e.1 hl
  · rintro i x G hx ⟨sm, ys, oD, ly, ok⟩
    have lt : i < xs.length := (List.getElem?_eq_some_iff.mp hx).1
    refine ⟨hw x, ?_⟩
    refine he i x G _ hx sm fun y G' sm' oy => ⟨ys, sm' _ _ oD, Nat.lt_of_le_of_lt (by omega : ys.length ≤ 100000) (by decide), ?_⟩
    have kp : Kp D G' (upd G' D (.lst (ys ++ [y]))) := Kp.at
    refine ⟨fun b o e => ?_, ys ++ [y], upd_same, by rw [List.length_append, ly]; rfl, ?_⟩
    · rw [upd_ne (ne_of_none e nD)]
      exact sm' _ _ (sm _ _ e)
    · intro k y' ey
      by_cases c : k < ys.length
      · rw [List.getElem?_append_left c] at ey
        exact st _ _ _ _ _ kp (sm' _ _ oD) (st _ _ _ _ _ (Kp.of sm') oD (ok k y' ey))
      · have kl : k < (ys ++ [y]).length := (List.getElem?_eq_some_iff.mp ey).1
        rw [List.length_append] at kl
        have kk : k = i := by
          have : ([y] : List V).length = 1 := rfl
          omega
        subst kk
        rw [List.getElem?_append_right (by omega), ly, Nat.sub_self] at ey
        have e1 : y = y' := Option.some.inj ey
        subst e1
        exact st _ _ _ _ _ kp (sm' _ _ oD) oy
  · rintro G ⟨sm, ys, oD, ly, ok⟩
    exact q G ys sm oD ly ok
end Gd

set_option Elab.async false
set_option linter.all false
set_option maxRecDepth 100000
set_option autoImplicit false
namespace Gd
open PySem PySem.Spec PyProof.Rows L2

/-! ### data stays -/
mutual
theorem dp_same {K : PySem.W.Frag} {H H' : Hp} (k : Same H H') : ∀ {v : V} {d : PyData}, Dp K H v d → Dp K H' v d
  | _, _, .non => .non
  | _, _, .bl b => .bl b
  | _, _, .int i => .int i
  | _, _, .str x => .str x
  | _, _, .lst s a => .lst (k.seq s) (dpa_same k a)
  | _, _, .tup s a => .tup (SqT.same k s) (dpa_same k a)
theorem dpa_same {K : PySem.W.Frag} {H H' : Hp} (k : Same H H') : ∀ {v : List V} {d : List PyData}, DpAll K H v d → DpAll K H' v d
  | _, _, .nil => .nil
  | _, _, .cons a b => .cons (dp_same k a) (dpa_same k b)
end
/-- no list in it -/
inductive NoL : PyData → Prop
  | non : NoL .none
  | bl (b : Bool) : NoL (.bool b)
  | int (i : Int) : NoL (.int i)
  | str (x : Str) : NoL (.str x)
  | tup {ds : List PyData} : (∀ d ∈ ds, NoL d) → NoL (.tuple ds)
/-- the only list that may change stands at a -/
def Kl (a : Addr) (H H' : Hp) : Prop := (∃ ys, H a = some (.lst ys)) ∧ Kp a H H'
mutual
theorem dp_kl {K : PySem.W.Frag} {H H' : Hp} {a : Addr} (k : Kl a H H') : ∀ {v : V} {d : PyData}, Dp K H v d → NoL d → Dp K H' v d
  | _, _, .non, _ => .non
  | _, _, .bl b, _ => .bl b
  | _, _, .int i, _ => .int i
  | _, _, .str x, _ => .str x
  | _, _, .tup s x, n => .tup (let ⟨⟨_, o⟩, kp⟩ := k; SqT.kpl kp o s) (dpa_kl k x (match n with | .tup h => h))
  | _, _, .lst s x, n => nomatch n
theorem dpa_kl {K : PySem.W.Frag} {H H' : Hp} {a : Addr} (k : Kl a H H') : ∀ {v : List V} {d : List PyData}, DpAll K H v d → (∀ x ∈ d, NoL x) → DpAll K H' v d
  | _, _, .nil, _ => .nil
  | _, _, .cons x y, n => .cons (dp_kl k x (n _ (by simp))) (dpa_kl k y fun z m => n z (by simp [m]))
end
theorem RS.kl {n : Nat} {H H' : Hp} {g : Addr} (r : RS n H g) (k : Kp g H H') : Kl g H H' := by
  obtain ⟨_, _, _, e, _⟩ := r.ok
  exact ⟨⟨_, e⟩, k⟩
theorem dpa_len {K : PySem.W.Frag} {H : Hp} : ∀ {v : List V} {d : List PyData}, DpAll K H v d → v.length = d.length
  | _, _, .nil => rfl
  | _, _, .cons _ b => by rw [List.length_cons, List.length_cons, dpa_len b]
theorem dpa_get {K : PySem.W.Frag} {H : Hp} : ∀ {v : List V} {d : List PyData} {i : Nat} {x : V}, DpAll K H v d → v[i]? = some x → ∃ y, d[i]? = some y ∧ Dp K H x y
  | _, _, _, _, .nil, e => by simp at e
  | _, _, 0, _, .cons a _, e => by
    have e' := Option.some.inj e
    subst e'
    exact ⟨_, rfl, a⟩
  | _, _, i + 1, x, .cons _ b, e => by
    obtain ⟨y, e2, h⟩ := dpa_get (i := i) (x := x) b (by simpa using e)
    exact ⟨y, by simpa using e2, h⟩
theorem dpa_app {K : PySem.W.Frag} {H : Hp} : ∀ {v w : List V} {d e : List PyData}, DpAll K H v d → DpAll K H w e → DpAll K H (v ++ w) (d ++ e)
  | _, _, _, _, .nil, y => y
  | _, _, _, _, .cons a b, y => .cons a (dpa_app b y)
theorem dpa_one {K : PySem.W.Frag} {H : Hp} {v : V} {d : PyData} (h : Dp K H v d) : DpAll K H [v] [d] := .cons h .nil
theorem dpa_take {K : PySem.W.Frag} {H : Hp} : ∀ {v : List V} {d : List PyData} (n : Nat), DpAll K H v d → DpAll K H (v.take n) (d.take n)
  | _, _, 0, _ => .nil
  | _, _, _ + 1, .nil => .nil
  | _, _, n + 1, .cons a b => .cons a (dpa_take n b)
theorem dpa_drop {K : PySem.W.Frag} {H : Hp} : ∀ {v : List V} {d : List PyData} (n : Nat), DpAll K H v d → DpAll K H (v.drop n) (d.drop n)
  | _, _, 0, r => r
  | _, _, _ + 1, .nil => .nil
  | _, _, n + 1, .cons _ b => dpa_drop n b
theorem dpa_rev {K : PySem.W.Frag} {H : Hp} : ∀ {v : List V} {d : List PyData}, DpAll K H v d → DpAll K H v.reverse d.reverse
  | _, _, .nil => .nil
  | _, _, .cons a b => by
    rw [List.reverse_cons, List.reverse_cons]
    exact dpa_app (dpa_rev b) (dpa_one a)
theorem dpa_strs {K : PySem.W.Frag} {H : Hp} : ∀ ns : List Str, DpAll K H (ns.map V.str) (ns.map PyData.str)
  | [] => .nil
  | n :: ns => .cons (.str n) (dpa_strs ns)

/-! ### an own class: its methods, len, == -/
/-- where a method stands -/
def AtM (K : PySem.W.Frag) (C : Addr) (m qual : Str) (st : Stmt) (ps : List Str) : Prop :=
  ∃ f fd, PySem.W.findIn K (.ref C) m = some (some (.ref f)) ∧ PySem.W.isFn K (.ref f) = true ∧ Fun K m qual st f fd ∧ Binds K fd ps []
/-- where a property's getter stands -/
def AtP (K : PySem.W.Frag) (C : Addr) (m qual : Str) (st : Stmt) (ps : List Str) : Prop :=
  ∃ p f fd, PropOf K C m p f ∧ Fun K m qual st f fd ∧ Binds K fd ps []
structure Mt (P : Program) (w : World) (K : PySem.W.Frag) (mg : Str → Option Value) (base : Heap)
    (k : Nat) (C : Addr) (m qual : Str) (st : Stmt) (ps : List Str) (sp : Sp) : Prop where
  ex : ∃ f fd, PySem.W.findIn K (.ref C) m = some (some (.ref f)) ∧ PySem.W.isFn K (.ref f) = true ∧ Fun K m qual st f fd ∧ Binds K fd ps [] ∧ FnOk P w K mg base CX0 k f fd ps sp
structure Pt (P : Program) (w : World) (K : PySem.W.Frag) (mg : Str → Option Value) (base : Heap)
    (k : Nat) (C : Addr) (m qual : Str) (st : Stmt) (ps : List Str) (sp : Sp) : Prop where
  ex : ∃ p f fd, PropOf K C m p f ∧ Fun K m qual st f fd ∧ Binds K fd ps [] ∧ FnOk P w K mg base CX0 k f fd ps sp
/-- an own class -/
structure Ck (K : PySem.W.Frag) (mg : Str → Option Value) (C : Addr) (x : Str) : Prop where
  cl : Cls K C
  mks : PySem.W.makesIn K C = true
  kp : PySem.W.keepIn K (.ref C) = true
  mg_ : mg x = some (.ref C)
section
variable {P : Program} {w : World} {K : PySem.W.Frag} {mg : Str → Option Value} {base : Heap}
theorem Mt.mk' {C : Addr} {m qual : Str} {st : Stmt} {ps : List Str} {k : Nat} {sp : Sp} (h : AtM K C m qual st ps)
    (ok : ∀ f fd, Fun K m qual st f fd → FnOk P w K mg base CX0 k f fd ps sp) : Mt P w K mg base k C m qual st ps sp := by
  obtain ⟨f, fd, a, i, F, b⟩ := h
  exact ⟨f, fd, a, i, F, b, ok f fd F⟩
theorem Pt.mk' {C : Addr} {m qual : Str} {st : Stmt} {ps : List Str} {k : Nat} {sp : Sp} (h : AtP K C m qual st ps)
    (ok : ∀ f fd, Fun K m qual st f fd → FnOk P w K mg base CX0 k f fd ps sp) : Pt P w K mg base k C m qual st ps sp := by
  obtain ⟨p, f, fd, a, F, b⟩ := h
  exact ⟨p, f, fd, a, F, b, ok f fd F⟩
end
section
variable {X : Cx} {x m qual : Str} {st : Stmt} {ps ks : List Str} {sp : Sp} {k j n : Nat} {e o : Expr} {es : List Expr} {kws : List Keyword} {ta : TE} {t tk : TA} {p pos apos : Pos} {C : Addr}
/-- C(e, ..) -/
theorem pe_new (T : Ck X.K X.mg C x) (D : Mt X.prog X.w X.K X.mg X.base k C "__init__" qual st ps sp) (hr : Room j X.A) (hg : Gl X x) (ha : PA X (e :: es) t) (hk : k + 1 ≤ j := by decide)
    (hdb : (x == ("__debug__" : Str)) = false := by decide) (he : starEach (e :: es) X.env = (false, eval e X.env) :: starEach es X.env := by rfl)
    (hpl : (backTo pos (starEach es X.env)).any (·.1) = false := by rfl) :
    PE X (.Call (.Name x p) (e :: es) [] pos) (tMake C sp [] E0 t) := by
  obtain ⟨f, fd, a, i, F, b, ok⟩ := D.ex
  exact pe_make ⟨T.mks, a, i, T.kp⟩ ok (hr.mono hk) hg T.mg_ b .nil pass0 ha hdb he hpl
/-- e.f, a property -/
theorem pe_p (T : Ck X.K X.mg C x) (D : Pt X.prog X.w X.K X.mg X.base k C m qual st ps sp) (hr : Room j X.A) (he : PE X e ta) (hk : k + 1 ≤ j := by decide)
    (hab : attributeBase e m X.env (eval e X.env) = eval e X.env := by rfl) : PE X (.Attribute e m pos) (tProp C sp [] E0 ta) := by
  obtain ⟨p, f, fd, a, F, b, ok⟩ := D.ex
  exact pe_prop he T.cl a ok (hr.mono hk) b .nil pass0 hab
/-- len(o), o with its own __len__ -/
theorem call_lenO (D : Mt X.prog X.w X.K X.mg X.base k C "__len__" qual st ps sp) (hr : Room j X.A) (hk : k + 1 ≤ j := by decide) :
    CallR X (.builtin "len") (fun xs H Q => ∃ a dx fs, xs = [.ref a] ∧ H a = some (.ins C dx fs) ∧ sp [.ref a] H (fun v H' => ∃ n : Int, v = .int n ∧ 0 ≤ n ∧ n < 2 ^ 63 ∧ Q (.int n) H') E0) := by
  intro pins s σ H xs us Q I r h
  obtain ⟨a, dx, fs, rfl, ha, q⟩ := h
  obtain ⟨f, fd, at_, i, F, b, ok⟩ := D.ex
  obtain ⟨u, rfl, ru⟩ := vals1 r
  cases ru
  obtain ⟨mA, J, _⟩ := ins_get I.hok ha
  obtain ⟨od, J, _⟩ := J.look
  obtain ⟨m, hF⟩ := I.fr
  refine PySem.W.len_K hF I.ok.mod.kin J at_ i ?_
  have cnt : ([Value.ref a] : List Value).length = ps.length := by
    have := ok.len _ _ _ _ q
    exact this
  have bnd : BindsTo s fd ⟨[.ref a], []⟩ (ps.zip [.ref a]) := by
    have z := b s [.ref a] I.kIn (by simpa using cnt)
    simpa using z
  have hr' := hr.mono hk
  refine wpAny_call (codeAny_mono (ok.run X.A.in1 X.stack s H ⟨[.ref a], []⟩ [.ref a] [.ref a] _ E0 hr'.in1 I.env0.in1 bnd (.cons rfl .nil) q) ?_)
  intro r' s' post
  cases r' with
  | error e => exact (post : False).elim
  | ok fl =>
    cases fl with
    | ret u =>
      obtain ⟨v, H', I2, rv, n, ev, n0, n1, q2⟩ := I.after post
      subst ev
      obtain ⟨tk, rfl⟩ := rv
      exact ⟨⟨n0, n1⟩, .int n, H', I2.tok _, ⟨s'.toks, rfl⟩, q2⟩
    | next => exact (post : False).elim
    | brk => exact (post : False).elim
    | cont => exact (post : False).elim
/-- o == y, o with its own __eq__, which tells True or False -/
theorem op_eqO (D : Mt X.prog X.w X.K X.mg X.base k C "__eq__" qual st ps sp) (hr : Room j X.A) (hk : k ≤ j := by decide) :
    OpR X (compareOp .Eq) (fun x y H Q => ∃ a dx fs t, x = .ref a ∧ H a = some (.ins C dx fs) ∧ TyX X.K H y t ∧ PySem.W.notFirst X.K C t = true ∧
      sp [.ref a, y] H (fun v H' => ∃ b : Bool, v = .bl b ∧ Q (.bl b) H') E0) := by
  intro pins s σ H x y v u Q I rx ry h
  obtain ⟨a, dx, fs, t, rfl, ha, ty, nf, q⟩ := h
  obtain ⟨f, fd, at_, i, F, b, ok⟩ := D.ex
  cases rx
  obtain ⟨mA, J, _⟩ := ins_get I.hok ha
  obtain ⟨od, J, _⟩ := J.look
  obtain ⟨m, hF⟩ := I.fr
  obtain ⟨Pk, kit, pk, _⟩ := kit_of I ry ty
  have hr' := hr.mono hk
  show wpAny (model X.prog X.w) X.A (richCompare .Eq (.ref a) u) (EP X pins σ Q) X.xe s
  refine PySem.W.cmp_K (op := .Eq) (tb := t) hr'.units0 hF I.ok.mod.kin J (kit.ty _ _ I.kIn pk) nf at_ i ?_
  have cnt : ([Value.ref a, u] : List Value).length = ps.length := by
    have := ok.len _ _ _ _ q
    exact this
  have bnd : BindsTo s fd ⟨[.ref a, u], []⟩ (ps.zip [.ref a, u]) := by
    have z := b s [.ref a, u] I.kIn (by simpa using cnt)
    simpa using z
  refine wpAny_call (codeAny_mono (ok.run X.A X.stack s H ⟨[.ref a, u], []⟩ [.ref a, u] [.ref a, y] _ E0 hr' I.env0 bnd (.cons rfl (.cons ry .nil)) q) ?_)
  intro r' s' post
  cases r' with
  | error e => exact (post : False).elim
  | ok fl =>
    cases fl with
    | ret w =>
      obtain ⟨v, H', I2, rv, n, ev, q2⟩ := I.after post
      subst ev
      have ew : w = Value.bool n := rv
      subst ew
      exact ⟨.bl n, H', I2, rfl, q2⟩
    | next => exact (post : False).elim
    | brk => exact (post : False).elim
    | cont => exact (post : False).elim
/-- C(k = v, ..) -/
theorem pe_newk {g : {α : Type} → List α → List α → List α} (T : Ck X.K X.mg C x) (D : Mt X.prog X.w X.K X.mg X.base k C "__init__" qual st ps sp) (hr : Room j X.A)
    (kb : ∀ f fd, Fun X.K "__init__" qual st f fd → KBn X.K fd ps 1 ks g g) (hg : Gl X x) (hkw : PK X kws tk) (hk : k + 1 ≤ j := by decide)
    (hall : (backToKw pos (keywordEach kws X.env)).all (·.1.isSome) = true := by rfl) (hks : (backToKw pos (keywordEach kws X.env)).filterMap (·.1) = ks := by rfl) (hdb : (x == ("__debug__" : Str)) = false := by decide)
    (hpl : ((backTo pos (starEach [] X.env)).any (·.1) || (backToKw pos (keywordEach kws X.env)).any (·.1.isNone)) = false := by rfl) :
    PE X (.Call (.Name x p) [] kws pos) (tMakeK C 0 ks.length sp g E0 tNil tk) := by
  obtain ⟨f, fd, a, i, F, b, ok⟩ := D.ex
  exact pe_makeK0 ⟨T.mks, a, i, T.kp⟩ ok (hr.mono hk) hg T.mg_ (kb f fd F) pass0 hkw hall hks hdb hpl
end
end Gd

set_option Elab.async false
set_option linter.all false
set_option maxRecDepth 100000
set_option autoImplicit false
namespace Gd
open PySem PySem.Spec PyProof.Rows L2

/-! ### t[::-1], t a tuple -/
theorem adjust_rev (n : Nat) : Builtin.Slice.sliceAdjust none none (-1) (n : Int) = ((n : Int) - 1, -1) := by
  simp [Builtin.Slice.sliceAdjust]
theorem places_rev (n : Nat) : Builtin.Slice.slicePlaces ((n : Int) - 1) (-1) (-1) = n := by
  unfold Builtin.Slice.slicePlaces
  rw [if_neg (by decide)]
  by_cases h : (n : Int) - 1 > -1
  · rw [if_pos h]
    have e : (- (-1) : Int) = 1 := by decide
    rw [e, Int.ediv_one]
    omega
  · rw [if_neg h]
    omega
theorem fm_congr {α β : Type} {f g : α → Option β} : ∀ l : List α, (∀ x ∈ l, f x = g x) → l.filterMap f = l.filterMap g
  | [], _ => rfl
  | a :: l, h => by
    rw [List.filterMap_cons, List.filterMap_cons, h a (by simp), fm_congr l fun x m => h x (by simp [m])]
theorem pick_rev (xs : Array Value) : ((List.range xs.size).filterMap fun (k : Nat) => xs[(((xs.size : Int) - 1) + (k : Int) * (-1)).toNat]?).toArray = xs.toList.reverse.toArray := by
  have e : ((List.range xs.size).filterMap fun (k : Nat) => xs[(((xs.size : Int) - 1) + (k : Int) * (-1)).toNat]?) = ((List.range xs.size).map fun k => xs.size - 1 - k).filterMap (xs[·]?) := by
    rw [List.filterMap_map]
    refine fm_congr _ fun k hk => ?_
    have := List.mem_range.mp hk
    show xs[(((xs.size : Int) - 1) + (k : Int) * (-1)).toNat]? = xs[xs.size - 1 - k]?
    congr 1
    omega
  rw [e, PySem.W.krv_range, List.filterMap_reverse, PySem.W.krv_all]
section
variable {prog : Program} {w : World} {A : Around} {E : Value → Shared → Prop} {s : Shared}
theorem applied_rev {sl : Addr} {vl vu vs : Value} {n : Nat} {Q : Int × Int × Nat → Shared → Prop} (hs : s.heap.IsSliceOf sl vl vu vs) (pl : IsPart vl none) (pu : IsPart vu none) (ps : IsPart vs (some (-1)))
    (h : Q ((n : Int) - 1, -1, n) s) : wpAny (model prog w) A (Builtin.Slice.sliceApplied (.ref sl) (pure (n : Int))) Q E s := by
  obtain ⟨os, hos, hcs, hds⟩ := id hs
  unfold Builtin.Slice.sliceApplied Builtin.Slice.sliceFields
  refine wpAny_bind (wpAny_bind (wpAny_field hos hds (x := vl) rfl (wpAny_bind (wpAny_field hos hds (x := vu) rfl (wpAny_bind (wpAny_field hos hds (x := vs) rfl (wpAny_pure ?_)))))))
  refine wpAny_bind (HT.slicePart_ ps ?_)
  show wpAny _ _ (if ((-1 : Int) == 0) = true then _ else _) _ _ s
  rw [if_neg (by decide)]
  refine wpAny_bind (HT.slicePart_ pl (wpAny_bind (HT.slicePart_ pu (wpAny_bind (wpAny_pure ?_)))))
  show wpAny _ _ (match Builtin.Slice.sliceAdjust none none (-1) (n : Int) with | (lo, hi) => pure (lo, (-1 : Int), Builtin.Slice.slicePlaces lo hi (-1))) _ _ s
  rw [adjust_rev n]
  show wpAny _ _ (pure ((n : Int) - 1, (-1 : Int), Builtin.Slice.slicePlaces ((n : Int) - 1) (-1) (-1))) _ _ s
  rw [places_rev]
  exact wpAny_pure h
theorem getItem_rev {t sl : Addr} {items : Array Value} {vl vu vs : Value} {Q : Value → Shared → Prop} (ht : IsTup s.heap t items) (hs : s.heap.IsSliceOf sl vl vu vs) (pl : IsPart vl none) (pu : IsPart vu none) (ps : IsPart vs (some (-1)))
    (h : Q (.ref s.heap.objs.size) { s with heap := s.heap.push { cls := .type "tuple", data := .seq items.toList.reverse.toArray } })
    (hsz : items.size ≤ sizeLine) : wpAny (model prog w) A (getItem (.ref t) (.ref sl)) Q E s := by
  have hok : sizeOk (.seq items.toList.reverse.toArray) := by
    show items.toList.reverse.toArray.size ≤ sizeLine
    rw [List.size_toArray, List.length_reverse, Array.length_toList]
    exact hsz
  obtain ⟨os, hos, hcs, hds⟩ := id hs
  have hTs : s.TypeIs (.ref sl) "slice" := ⟨os, hos, hcs⟩
  unfold getItem
  try with_reducible refine wpAny_holding ?_
  first | refine wpAny_bind (wpAny_pure ?_) | skip
  refine wpAny_bind (wpAny_sequenceKey ht.typeIs (by decide) ?_)
  refine wpAny_bind (wpAny_callSpecial?_slot (name := Str.ofString "__getitem__") ht.typeIs PyProof.Rows.slot_tuple_getitem
    (wpAny_call_entry PyProof.Rows.slot_tuple_getitem ht.typeIs entry_tuple_getitem ?_ (args_tuple_getitem _ _)))
  show wpAny _ _ (Builtin.Tuple.tupleItemsOf (.ref t) >>= _) _ _ s
  refine wpAny_bind (tupleItemsOf_ ht ?_)
  refine wpAny_bind (wpAny_typeOf hTs ?_)
  rw [if_pos (by decide)]
  refine wpAny_bind (applied_rev hs pl pu ps ?_)
  have hno : ¬ (((((items.size : Int) - 1) == 0) && ((-1 : Int) == 1) && (items.size == items.size)) = true) := by
    intro q
    rw [Bool.and_eq_true, Bool.and_eq_true] at q
    exact absurd (eq_of_beq q.1.2) (by decide)
  show wpAny _ _ (if ((((items.size : Int) - 1) == 0) && ((-1 : Int) == 1) && (items.size == items.size)) = true then _ else _) _ _ s
  rw [if_neg hno, pick_rev]
  first
    | exact wpAny_bind (m := Builtin.Tuple.tupleExact _) (wpAny_newObj_type (wpAny_pure ⟨_, rfl, wpAny_pure h⟩) hok)
    | exact wpAny_bind (m := Builtin.Tuple.tupleExact _) (wpAny_newObj_type (wpAny_bind (wpAny_pure (wpAny_pure ⟨_, rfl, wpAny_pure h⟩))) hok)
    | exact wpAny_bind (wpAny_bind (m := Builtin.Tuple.tupleExact _) (wpAny_newObj_type (wpAny_pure (wpAny_pure ⟨_, rfl, wpAny_pure h⟩)) hok))
    | exact wpAny_bind (wpAny_bind (m := Builtin.Tuple.tupleExact _) (wpAny_newObj_type (wpAny_pure ⟨_, rfl, wpAny_pure h⟩) hok))
end
section
variable {X : Cx}
def tRevT (K : PySem.W.Frag) (te : TE) : TE := fun σ H Q => te σ H fun x H1 => ∃ a xs, x = .ref a ∧ SqT K H1 a xs ∧ ∀ p, H1 p = none → Q (.ref p) (upd H1 p (.tup xs.reverse))
theorem pe_revT {e : Expr} {te : TE} {k : Nat} {p1 p2 p3 pos : Pos} (he : PE X e te) : PE X (.Subscript e (.Slice none none (some (.UnaryOp .USub (.Constant (.int 1) k p1) p2)) p3) pos) (tRevT X.K te) := by
  refine ⟨fun pins s σ H Q I h => ?_⟩
  refine Subscript_ (thn (he.run pins s σ H _ I h) fun v s1 ⟨x, H1, I1, r1, q1⟩ => ?_)
  obtain ⟨a, xs, ex, hx, q⟩ := q1
  subst ex
  cases r1
  have hst : PO X (some (.UnaryOp .USub (.Constant (.int 1) k p1) p2)) (tPart (tUn (rU fun i => .int (-i)) (tC (.int 1)))) := po_some (pe_un un_neg pe_int)
  refine wpAny_Slice (thn (po_none.run pins s1 σ H1 (fun o H2 => o = none ∧ H2 = H1) I1 ⟨rfl, rfl⟩) fun vl s2 ⟨l, H2, I2, pl, el, e2⟩ => ?_)
  subst el e2
  refine thn (po_none.run pins s2 σ H2 (fun o H3 => o = none ∧ H3 = H2) I2 ⟨rfl, rfl⟩) fun vu s3 ⟨u, H3, I3, pu, eu, e3⟩ => ?_
  subst eu e3
  refine thn (hst.run pins s3 σ H3 (fun o H4 => o = some (-1) ∧ H4 = H3) I3 ⟨1, rfl, -1, rfl, rfl, rfl⟩) fun vs s4 ⟨o, H4, I4, ps, eo, e4⟩ => ?_
  subst eo e4
  have I5 : Inv X pins σ H4 { s4 with heap := s4.heap.push { cls := .type "slice", data := .fields #[vl, vu, vs] } } := I4.kept (t' := s4.toks) fun b ob q => Heap.get?_push_of_some _ q
  obtain ⟨its, r, ht, hz⟩ := I5.tuple hx
  have hlen := r.length
  show wpAny (model X.prog X.w) X.A (subscriptTail e (.Slice none none (some (.UnaryOp .USub (.Constant (.int 1) k p1) p2)) p3) (.ref a) (.ref s4.heap.objs.size)) (EP X pins σ Q) X.xe { s4 with heap := s4.heap.push { cls := .type "slice", data := .fields #[vl, vu, vs] } }
  refine tail_any (ops := [.ref a, .ref s4.heap.objs.size]) ht.typeIs (PyProof.Rows.slot_tuple_getitem.lookup) ?_ (by with_unfolding_all rfl)
  refine getItem_rev ht (Heap.IsSliceOf.new _ vl vu vs) pl pu ps ?_ (by rw [List.size_toArray]; omega)
  refine ⟨.ref _, _, I5.laid (t' := s4.toks) (o := .tup xs.reverse) (fun b ob q => Heap.get?_push_of_some _ q) (Nat.le_refl _) ?_, rfl, q _ (I5.hok.fresh (Nat.le_refl _))⟩
  refine ⟨by rw [List.length_reverse]; omega, its.reverse, r.reverse, _, Heap.get?_push_size _ rfl, rfl, 0, rfl⟩
end
end Gd

set_option Elab.async false
set_option linter.all false
set_option maxRecDepth 100000
set_option autoImplicit false
namespace Gd
open PySem PySem.Spec PyProof.Rows L2

/-! ### methods of an own class, called -/
section
variable {X : Cx} {x m qual : Str} {st : Stmt} {ps ks : List Str} {sp : Sp} {k j : Nat} {e o : Expr} {es : List Expr} {kws : List Keyword} {ta : TE} {t tk : TA} {p pos apos : Pos} {C : Addr}
/-- o.m(e, ..) -/
theorem pe_m {pl : Sem Bool} (T : Ck X.K X.mg C x) (D : Mt X.prog X.w X.K X.mg X.base k C m qual st ps sp) (hr : Room j X.A) (he : PE X o ta) (ha : PA X (e :: es) t) (hk : k ≤ j := by decide)
    (hst : starEach (e :: es) X.env = (false, eval e X.env) :: starEach es X.env := by rfl) (hpl : (backTo pos (starEach es X.env)).any (·.1) = false := by rfl)
    (ht : eval (.Call (.Attribute o m apos) (e :: es) [] pos) X.env = (do
      let ov ← eval o X.env
      standAt apos.atName
      let (f, first) ← holding [ov] (getMethod ov m pl)
      callWith pos f first (backTo pos (starEach (e :: es) X.env)) (backToKw pos (keywordEach [] X.env))) := by rfl) :
    PE X (.Call (.Attribute o m apos) (e :: es) [] pos) (tMeth C m sp [] E0 ta t) := by
  obtain ⟨f, fd, at_, i, F, b, ok⟩ := D.ex
  exact pe_meth he T.cl ⟨at_, i, F.kp⟩ ok (hr.mono hk) b .nil pass0 ha hst hpl ht
/-- o.m() -/
theorem pe_m0 {pl : Sem Bool} (T : Ck X.K X.mg C x) (D : Mt X.prog X.w X.K X.mg X.base k C m qual st ps sp) (hr : Room j X.A) (he : PE X o ta) (hk : k ≤ j := by decide)
    (ht : eval (.Call (.Attribute o m apos) [] [] pos) X.env = (do
      let ov ← eval o X.env
      standAt apos.atName
      let (f, first) ← holding [ov] (getMethod ov m pl)
      callWith pos f first (backTo pos (starEach [] X.env)) (backToKw pos (keywordEach [] X.env))) := by rfl) :
    PE X (.Call (.Attribute o m apos) [] [] pos) (tMeth C m sp [] E0 ta tNil) := by
  obtain ⟨f, fd, at_, i, F, b, ok⟩ := D.ex
  exact pe_meth0 he T.cl ⟨at_, i, F.kp⟩ ok (hr.mono hk) b .nil pass0 ht
/-- the reading of o == y, o with its own __eq__ -/
def rEqO (K : PySem.W.Frag) (C : Addr) (sp : Sp) : R2 := fun x y H Q => ∃ a dx fs t, x = .ref a ∧ H a = some (.ins C dx fs) ∧ TyX K H y t ∧ PySem.W.notFirst K C t = true ∧
  sp [.ref a, y] H (fun v H' => ∃ b : Bool, v = .bl b ∧ Q (.bl b) H') E0
/-- the reading of o.m(k = v, ..) -/
def tMethK (C : Addr) (m : Str) (n : Nat) (sp : Sp) (gV : List V → List V → List V) (ta : TE) (tk : TA) : TE := fun σ H Q => ta σ H fun x H1 => ∃ a dx fs, x = .ref a ∧ H1 a = some (.ins C dx fs) ∧ fs.lookup m = none ∧
  tk σ H1 fun zs H2 => zs.length = n ∧ sp (gV [x] zs) H2 Q E0
/-- o.m(k = v, ..) -/
theorem pe_mk {pl : Sem Bool} {g : {α : Type} → List α → List α → List α} (T : Ck X.K X.mg C x) (D : Mt X.prog X.w X.K X.mg X.base k C m qual st ps sp) (hr : Room j X.A) (kb : ∀ f fd, Fun X.K m qual st f fd → KBn X.K fd ps 1 ks g g) (he : PE X o ta) (hkw : PK X kws tk) (hk : k ≤ j := by decide)
    (hall : (backToKw pos (keywordEach kws X.env)).all (·.1.isSome) = true := by rfl) (hks : (backToKw pos (keywordEach kws X.env)).filterMap (·.1) = ks := by rfl)
    (hpl : ((backTo pos (starEach [] X.env)).any (·.1) || (backToKw pos (keywordEach kws X.env)).any (·.1.isNone)) = false := by rfl)
    (ht : eval (.Call (.Attribute o m apos) [] kws pos) X.env = (do
      let ov ← eval o X.env
      standAt apos.atName
      let (f, first) ← holding [ov] (getMethod ov m pl)
      callWith pos f first (backTo pos (starEach [] X.env)) (backToKw pos (keywordEach kws X.env))) := by rfl) :
    PE X (.Call (.Attribute o m apos) [] kws pos) (tMethK C m ks.length sp g ta tk) := by
  obtain ⟨f, fd, at_, i, F, b, ok⟩ := D.ex
  refine ⟨fun pins s σ H Q I h => ?_⟩
  refine PySem.W.methodCall_KW (pl := pl) (thn (he.run pins s σ H _ I h) fun u s1 got => ?_) ht
  obtain ⟨x', H1, I1, rx, a, dx, fs, ex, ea, l, q⟩ := got
  subst ex
  obtain rfl : u = Value.ref a := rx
  refine getmeth_ok I1 ea T.cl ⟨at_, i, F.kp⟩ l ?_
  refine PySem.W.callWith_KW0 (first := [.ref a]) (h₀ := X.base) I.ok.mod.kin F.kp hall ?_ hpl
  refine thn (hkw.run pos pins s1 σ H1 _ I1 q) fun ws s2 got2 => ?_
  obtain ⟨zs, H2, I2, rz, l1, q2⟩ := got2
  refine ⟨I2.kIn, ?_⟩
  rw [hks]
  have kb' := kb f fd F
  have r1 : Vals [V.ref a] [Value.ref a] := .cons rfl .nil
  have rel := kb'.rel r1 rz
  have bnd := kb'.to s2 [.ref a] ws I2.kIn rfl (rz.length.symm.trans l1)
  show wpAny _ _ (call (.ref f) [.ref a] (ks.zip ws)) _ _ _
  refine wpAny_call (codeAny_mono (ok.run X.A X.stack s2 H2 ⟨[.ref a], ks.zip ws⟩ _ _ _ E0 (hr.mono hk) I2.env0 bnd rel q2) ?_)
  intro r s' post
  cases r with
  | error e => exact (post : False).elim
  | ok fl =>
    cases fl with
    | ret u => exact I2.after post
    | next => exact (post : False).elim
    | brk => exact (post : False).elim
    | cont => exact (post : False).elim
end
end Gd

set_option Elab.async false
set_option linter.all false
set_option maxRecDepth 100000
set_option autoImplicit false
namespace Gd
open PySem PySem.Spec PyProof.Rows L2

/-! ### a shown text has only signs that there are -/
def Sg (t : Str) : Prop := ∀ c ∈ t.cps.toList, c < 1114112
theorem Sg.ok {t : Str} (h : Sg t) : PyData.strOk t = true := by
  unfold PyData.strOk
  rw [← Array.all_toList, List.all_eq_true]
  exact fun c m => decide_eq_true (h c m)
theorem Sg.of {t : Str} (h : PyData.strOk t = true) : Sg t := by
  unfold PyData.strOk at h
  rw [← Array.all_toList, List.all_eq_true] at h
  exact fun c m => of_decide_eq_true (h c m)
theorem char_lt (c : Char) : c.toNat < 1114112 := by
  have h := c.valid
  have e : c.toNat = c.val.toNat := rfl
  rcases h with h | h
  · have h1 : c.val.toNat < 0xd800 := h
    omega
  · have h1 : c.val.toNat < 0x110000 := h.2
    omega
theorem Sg.lit (s : String) : Sg (Str.ofString s) := fun c m => by
  rw [signs_ofString] at m
  obtain ⟨ch, _, rfl⟩ := List.mem_map.mp m
  exact char_lt ch
theorem Sg.app {a b : Str} (ha : Sg a) (hb : Sg b) : Sg (a ++ b) := fun c m => by
  have e : (a ++ b).cps = a.cps ++ b.cps := rfl
  rw [e, Array.toList_append, List.mem_append] at m
  exact m.elim (ha c) (hb c)
theorem reprChar_lt {q c : Nat} (hq : q < 1114112) (hc : c < 1114112) : ∀ d ∈ PySem.Builtin.Str.reprChar q c, d < 1114112 := by
  intro d m
  have hex : ∀ n, d ∈ List.replicate n 48 ++ (Nat.toDigits 16 c).map Char.toNat → d < 1114112 := fun n m => by
    rcases List.mem_append.mp m with m | m
    · have := (List.mem_replicate.mp m).2
      omega
    · obtain ⟨ch, _, rfl⟩ := List.mem_map.mp m
      exact char_lt ch
  unfold PySem.Builtin.Str.reprChar at m
  simp only at m
  split at m
  · simp only [List.mem_cons, List.not_mem_nil, or_false] at m
    omega
  split at m
  · simp only [List.mem_cons, List.not_mem_nil, or_false] at m
    omega
  split at m
  · simp only [List.mem_cons, List.not_mem_nil, or_false] at m
    omega
  split at m
  · simp only [List.mem_cons, List.not_mem_nil, or_false] at m
    omega
  split at m
  · simp only [List.mem_cons, List.not_mem_nil, or_false] at m
    omega
  split at m
  · rcases List.mem_append.mp m with m | m
    · simp only [List.mem_cons, List.not_mem_nil, or_false] at m
      omega
    · exact hex _ m
  split at m
  · rcases List.mem_append.mp m with m | m
    · simp only [List.mem_cons, List.not_mem_nil, or_false] at m
      omega
    · exact hex _ m
  · rcases List.mem_append.mp m with m | m
    · simp only [List.mem_cons, List.not_mem_nil, or_false] at m
      omega
    · exact hex _ m
theorem foldl_lt {q : Nat} (hq : q < 1114112) : ∀ (l : List Nat) (acc : Array Nat), (∀ c ∈ l, c < 1114112) → (∀ c ∈ acc.toList, c < 1114112) → ∀ c ∈ (l.foldl (fun out c => out ++ (PySem.Builtin.Str.reprChar q c).toArray) acc).toList, c < 1114112
  | [], acc, _, ha => ha
  | c :: l, acc, hl, ha => by
    refine foldl_lt hq l _ (fun d m => hl d (List.mem_cons_of_mem _ m)) fun d m => ?_
    rw [Array.toList_append, List.mem_append] at m
    rcases m with m | m
    · exact ha d m
    · exact reprChar_lt hq (hl c List.mem_cons_self) d m
theorem quote_lt (x : Str) : reprQuote x < 1114112 := by
  unfold reprQuote
  split <;> decide
theorem Sg.repr {x : Str} (h : Sg x) : Sg (reprText x) := by
  intro c m
  have e : (reprText x).cps = (x.cps.foldl (fun out c => out ++ (PySem.Builtin.Str.reprChar (reprQuote x) c).toArray) #[reprQuote x]).push (reprQuote x) := rfl
  rw [e, Array.toList_push, List.mem_append] at m
  rcases m with m | m
  · rw [← Array.foldl_toList] at m
    refine foldl_lt (quote_lt x) _ _ h (fun d md => ?_) c m
    have : d = reprQuote x := by simpa using md
    rw [this]
    exact quote_lt x
  · have : c = reprQuote x := by simpa using m
    rw [this]
    exact quote_lt x
theorem Sg.text : ∀ (ts : List Str) (k : Nat) (acc : Str), Sg acc → (∀ t ∈ ts, Sg t) → Sg (textFrom k acc ts)
  | [], _, _, ha, _ => ha
  | t :: ts, k, acc, ha, ht => by
    refine Sg.text ts (k + 1) _ (Sg.app (Sg.app ha ?_) (ht t List.mem_cons_self)) fun u m => ht u (List.mem_cons_of_mem _ m)
    split
    · exact Sg.lit _
    · exact Sg.lit _
theorem Sg.join {sep : Str} (hs : Sg sep) : ∀ (ts : List Str), (∀ t ∈ ts, Sg t) → Sg (Str.join sep ts)
  | [], _ => fun c m => by
    have : c ∈ ([] : List Nat) := m
    simp at this
  | [x], h => h x List.mem_cons_self
  | x :: y :: r, h => Sg.app (Sg.app (h x List.mem_cons_self) hs) (Sg.join hs (y :: r) fun t m => h t (List.mem_cons_of_mem _ m))
mutual
theorem shown_sg : ∀ d : PyData, d.canLay0 = true → Sg d.shown
  | .none, _ => by
    rw [PyData.shown_none]
    exact Sg.lit _
  | .bool b, _ => by
    rw [PyData.shown_bool]
    split <;> exact Sg.lit _
  | .int i, _ => by
    rw [PyData.shown_int]
    exact Sg.lit _
  | .str x, h => by
    have h' : PyData.strOk x = true := by simpa [PyData.canLay0] using h
    have e : (PyData.str x).shown = reprText x := by simp [PyData.shown]
    rw [e]
    exact Sg.repr (Sg.of h')
  | .list xs, h => by
    have h' : PyData.canLayAll0 xs = true := by simpa [PyData.canLay0] using h
    have e : (PyData.list xs).shown = listText (PyData.shownAll xs) := by simp [PyData.shown]
    rw [e]
    exact Sg.app (Sg.text _ _ _ (Sg.lit _) (shownAll_sg xs h')) (Sg.lit _)
  | .tuple xs, h => by
    have h' : PyData.canLayAll0 xs = true := by simpa [PyData.canLay0] using h
    have e : (PyData.tuple xs).shown = tupleText (PyData.shownAll xs) := by simp [PyData.shown]
    rw [e]
    refine Sg.app (Sg.app (Sg.lit _) (Sg.join (Sg.lit _) _ (shownAll_sg xs h'))) ?_
    split <;> exact Sg.lit _
  | .dict _, h => by simp [PyData.canLay0] at h
theorem shownAll_sg : ∀ xs : List PyData, PyData.canLayAll0 xs = true → ∀ t ∈ PyData.shownAll xs, Sg t
  | [], _, t, m => by
    rw [PyData.shownAll_nil] at m
    simp at m
  | x :: xs, h, t, m => by
    have h' : x.canLay0 = true ∧ PyData.canLayAll0 xs = true := by simpa [PyData.canLayAll0] using h
    rw [PyData.shownAll_cons, List.mem_cons] at m
    rcases m with rfl | m
    · exact shown_sg x h'.1
    · exact shownAll_sg xs h'.2 t m
end
theorem shown_ok {d : PyData} (h : d.canLay0 = true) : PyData.strOk d.shown = true := (shown_sg d h).ok
end Gd

set_option Elab.async false
set_option linter.all false
set_option maxRecDepth 100000
set_option autoImplicit false
namespace Gd
open PySem PySem.Spec PyProof.Rows L2

/-! ### dicts of text keys -/
mutual
theorem reads_noL {h : Heap} : ∀ (d : PyData) {v : Value} {as : List Addr}, Reads h v d as → NoL d → as = []
  | .none, _, _, r, _ => by cases r; rfl
  | .bool _, _, _, r, _ => by cases r; rfl
  | .int _, _, _, r, _ => by cases r; rfl
  | .str _, _, _, r, _ => by cases r; rfl
  | .list _, _, _, _, n => by cases n
  | .tuple ds, _, _, r, n => by
    cases r with
    | tuple h1 h2 h3 ra => exact readsAll_noL ds ra (by cases n with | tup f => exact f)
  | .dict _, _, _, _, n => by cases n
theorem readsAll_noL {h : Heap} : ∀ (ds : List PyData) {vs : List Value} {as : List Addr}, ReadsAll h vs ds as → (∀ d ∈ ds, NoL d) → as = []
  | [], _, _, r, _ => by cases r; rfl
  | d :: ds, _, _, r, n => by
    cases r with
    | cons r1 r2 =>
      rw [reads_noL d r1 (n d (by simp)), readsAll_noL ds r2 (fun x m => n x (by simp [m]))]
      rfl
end
/-- the pairs of a dict -/
abbrev kvOf (ks : List Str) (vs : List V) : List (Key × V) := (ks.map Sum.inr).zip vs
/-- at a: a dict from the texts ks to values of the data ds -/
structure Dct (K : PySem.W.Frag) (H : Hp) (a : Addr) (ks : List Str) (ds : List PyData) : Prop where
  ex : ∃ vs : List V, vs.length = ks.length ∧ H a = some (.dK (kvOf ks vs)) ∧ DpAll K H vs ds
  nol : ∀ d ∈ ds, NoL d
theorem keys_reads {P : Program} {w : World} {h : Heap} : ∀ {es : List DictEntry} {kvs : List (Key × Value)} {ks : List Str}, Pairs (mixKind P w) es kvs → kvs.map (·.1) = ks.map Sum.inr → ReadsAll h (es.map (·.key)) (ks.map PyData.str) []
  | [], _, ks, .nil, e => by
    have : ks = [] := by simpa using e.symm
    subst this
    exact .nil
  | _ :: _, _, [], .cons _ _ _, e => by simp at e
  | d :: es, kv :: kvs, k :: ks, .cons h1 h2 h3, e => by
    simp only [List.map_cons, List.cons.injEq] at e
    have h1' : keyIs kv.1 d.key = true := h1
    rw [e.1] at h1'
    rcases keyIs_shape h1' with ⟨i, t, q, _⟩ | ⟨x, t, q, q2⟩
    · cases q
    · cases q
      have := keys_reads (h := h) h3 e.2
      simp only [List.map_cons]
      rw [q2]
      exact ReadsAll.cons (.str k t) this
theorem vals_of_pairs {P : Program} {w : World} : ∀ {es : List DictEntry} {kvs : List (Key × Value)}, Pairs (mixKind P w) es kvs → es.map (·.val) = kvs.map (·.2)
  | _, _, .nil => rfl
  | _, _, .cons _ h2 h3 => by
    simp only [List.map_cons]
    rw [h2, vals_of_pairs h3]
theorem kv_vals {α : Type} : ∀ {kvs : List (α × V)} {us : List (α × Value)}, KV kvs us → Vals (kvs.map (·.2)) (us.map (·.2))
  | _, _, .nil => .nil
  | _, _, .cons h t => .cons h.2 (kv_vals t)
theorem kv_keys {α : Type} : ∀ {kvs : List (α × V)} {us : List (α × Value)}, KV kvs us → kvs.map (·.1) = us.map (·.1)
  | _, _, .nil => rfl
  | _, _, .cons h t => by
    simp only [List.map_cons]
    rw [h.1, kv_keys t]
theorem kvOf_keys : ∀ {ks : List Str} {vs : List V}, vs.length = ks.length → (kvOf ks vs).map (·.1) = ks.map Sum.inr
  | [], [], _ => rfl
  | k :: ks, v :: vs, l => by
    show Sum.inr k :: (kvOf ks vs).map (·.1) = _
    rw [kvOf_keys (by simpa using l)]
    rfl
theorem kvOf_vals : ∀ {ks : List Str} {vs : List V}, vs.length = ks.length → (kvOf ks vs).map (·.2) = vs
  | [], [], _ => rfl
  | k :: ks, v :: vs, l => by
    show v :: (kvOf ks vs).map (·.2) = _
    rw [kvOf_vals (by simpa using l)]
/-- the data of such a dict -/
def dctD (ks : List Str) (ds : List PyData) : PyData := .dict ((ks.map PyData.str).zip ds)
/-- a dict whose text is short -/
structure DctOk (n k : Nat) (ks : List Str) (ds : List PyData) : Prop where
  ks_ : ∀ x ∈ ks, DOk 20 1 (.str x)
  ds_ : ∀ d ∈ ds, DOk n k d
  len : ds.length = ks.length
  few : ks.length ≤ 100
theorem zip_facts {n k : Nat} : ∀ {ks : List Str} {ds : List PyData}, ds.length = ks.length → (∀ x ∈ ks, DOk 20 1 (.str x)) → (∀ d ∈ ds, DOk n k d) → 1 ≤ k →
    PyData.leavesShortKv 62 ((ks.map PyData.str).zip ds) = true ∧ PyData.bulkKv ((ks.map PyData.str).zip ds) ≤ ks.length * (n + 22) ∧ PyData.showableKv ((ks.map PyData.str).zip ds) = true ∧ PyData.depthKv ((ks.map PyData.str).zip ds) ≤ k
  | [], [], _, _, _, _ => ⟨rfl, by simp [PyData.bulkKv], rfl, by simp [PyData.depthKv]⟩
  | x :: ks, d :: ds, l, hk, hd, k1 => by
    obtain ⟨a1, a2, a3, a4⟩ := zip_facts (ks := ks) (ds := ds) (by simpa using l) (fun y m => hk y (by simp [m])) (fun y m => hd y (by simp [m])) k1
    have X := hk x (by simp)
    have D := hd d (by simp)
    simp only [List.map_cons, List.zip_cons_cons]
    refine ⟨?_, ?_, ?_, ?_⟩
    · unfold PyData.leavesShortKv
      rw [X.short, D.short, a1]
      rfl
    · unfold PyData.bulkKv
      have := X.bulk
      have := D.bulk
      rw [List.length_cons, Nat.succ_mul]
      omega
    · unfold PyData.showableKv
      rw [X.shw, D.shw, a3]
      rfl
    · unfold PyData.depthKv
      have := X.deep
      have := D.deep
      omega
theorem reads_dct {X : Cx} {pins : List (Addr × Obj)} {σ : L2.St} {H : Hp} {s : Shared} {a : Addr} {ks : List Str} {ds : List PyData} (I : Inv X pins σ H s) (h : Dct X.K H a ks ds) : Reads s.heap (.ref a) (dctD ks ds) [a] ∧ a ≠ sysModules := by
  obtain ⟨vs, lv, e, da⟩ := h.ex
  obtain ⟨_, hs, us, kv, o, es, ep, ho, ex, hdat, _, prs, _⟩ := dk_of I.hok e
  have k1 : ReadsAll s.heap (es.toList.map (·.key)) (ks.map PyData.str) [] := keys_reads prs (by rw [← kv_keys kv, kvOf_keys lv])
  have rv : Vals vs (us.map (·.2)) := by
    have z := kv_vals kv
    rw [kvOf_vals lv] at z
    exact z
  obtain ⟨as, k2⟩ := Dp.readsAll I ds vs (us.map (·.2)) da rv
  have z := readsAll_noL ds k2 h.nol
  subst z
  rw [← vals_of_pairs prs] at k2
  have l1 : (ks.map PyData.str).length = ds.length := by rw [List.length_map, ← lv, dpa_len da]
  have e1 : ((ks.map PyData.str).zip ds).map (·.1) = ks.map PyData.str := by
    rw [List.map_fst_zip]
    omega
  have e2 : ((ks.map PyData.str).zip ds).map (·.2) = ds := by
    rw [List.map_snd_zip]
    omega
  refine ⟨?_, fun z => ?_⟩
  · have := Reads.dict (kvs := (ks.map PyData.str).zip ds) ho ex.1 hdat (by rw [e1]; exact k1) (by rw [e2]; exact k2)
    exact this
  · rw [z] at hs
    simp at hs
section
variable {X : Cx}
/-- repr of a dict that is short -/
theorem call_reprDct {k : Nat} (gd : X.A.guards = some []) (hr : Room k X.A) : CallR X (.builtin "repr") (fun xs H Q => ∃ a ks ds n j, xs = [.ref a] ∧
    Dct X.K H a ks ds ∧ DctOk n j ks ds ∧ n ≤ 1000 ∧ 1 ≤ j ∧ j ≤ 60 ∧ Q (.str (dctD ks ds).shown) H) := by
  intro pins s σ H xs us Q I r h
  obtain ⟨a, ks, ds, n, j, rfl, dc, ok, hn, j1, hj, q⟩ := h
  obtain ⟨u, rfl, ru⟩ := vals1 r
  cases ru
  obtain ⟨rd, ns⟩ := reads_dct I dc
  obtain ⟨f1, f2, f3, f4⟩ := zip_facts ok.len ok.ks_ ok.ds_ j1
  have room := hr.un
  have dd : (dctD ks ds).depth ≤ 61 := by
    unfold dctD PyData.depth
    omega
  have fits : (dctD ks ds).shown.length ≤ sizeLine := by
    have e := PyData.shown_le_bulk 62 (by decide) (dctD ks ds) (by unfold dctD PyData.leavesShort; exact f1)
    have b : (dctD ks ds).bulk ≤ ks.length * (n + 22) := by
      unfold dctD PyData.bulk
      exact f2
    have c : ks.length * (n + 22) ≤ 100 * 1022 := Nat.mul_le_mul ok.few (by omega)
    have s : sizeLine = 16777216 := by decide
    omega
  refine repr_of_reads' rd (by unfold dctD PyData.showable; exact f3) (fun _ z => ?_) gd (by omega) (fun _ _ e => e) ?_ fits
  · have : sysModules = a := by simpa using z
    exact ns this.symm
  · intro h' u tk keep
    exact ⟨.str _, H, I.kept keep, ⟨u, rfl⟩, q⟩
end

/-! ### what stands at a key -/
theorem valV_kv {ks : List Str} (nd : ks.Nodup) : ∀ {vs : List V} {i : Nat} {x : Str} {v : V}, ks[i]? = some x → vs[i]? = some v → valV (kvOf ks vs) (.inr x) = some v := by
  induction ks with
  | nil => intro vs i x v e; simp at e
  | cons k ks ih =>
    intro vs i x v e1 e2
    cases vs with
    | nil => simp at e2
    | cons u vs =>
      have nd' := List.nodup_cons.mp nd
      show valV ((Sum.inr k, u) :: kvOf ks vs) (.inr x) = some v
      cases i with
      | zero =>
        have a : k = x := by simpa using e1
        have b : u = v := by simpa using e2
        subst a b
        exact valV_pos rfl
      | succ i =>
        have m : x ∈ ks := List.mem_of_getElem? (by simpa using e1)
        have ne : ¬ (Sum.inr k : Key) = Sum.inr x := fun z => by
          cases z
          exact nd'.1 m
        rw [valV_neg ne]
        exact ih nd'.2 (by simpa using e1) (by simpa using e2)
theorem valV_no {x : Str} : ∀ {ks : List Str} {vs : List V}, x ∉ ks → valV (kvOf ks vs) (.inr x) = none
  | [], _, _ => rfl
  | _ :: _, [], _ => rfl
  | k :: ks, v :: vs, h => by
    show valV ((Sum.inr k, v) :: kvOf ks vs) (.inr x) = none
    rw [valV_neg (fun z => by cases z; exact h (by simp))]
    exact valV_no (fun m => h (by simp [m]))
theorem kvOf_snoc {ks : List Str} {vs : List V} {k : Str} {v : V} (l : vs.length = ks.length) : kvOf ks vs ++ [(Sum.inr k, v)] = kvOf (ks ++ [k]) (vs ++ [v]) := by
  unfold kvOf
  rw [List.map_append, List.zip_append (by rw [List.length_map, l])]
  rfl
theorem Dct.same {K : PySem.W.Frag} {H H' : Hp} {a : Addr} {ks : List Str} {ds : List PyData} (k : Same H H') (h : Dct K H a ks ds) : Dct K H' a ks ds := by
  obtain ⟨vs, l, e, d⟩ := h.ex
  exact ⟨⟨vs, l, k _ _ e, dpa_same k d⟩, h.nol⟩
theorem Dct.kl {K : PySem.W.Frag} {H H' : Hp} {a g : Addr} {ks : List Str} {ds : List PyData} (k : Kl g H H') (h : Dct K H a ks ds) : Dct K H' a ks ds := by
  obtain ⟨vs, l, e, d⟩ := h.ex
  obtain ⟨ys, eg⟩ := k.1
  exact ⟨⟨vs, l, k.2 _ _ (ne_of e eg (fun z => by cases z)) e, dpa_kl k d h.nol⟩, h.nol⟩
end Gd

set_option Elab.async false
set_option linter.all false
set_option maxRecDepth 100000
set_option maxHeartbeats 2000000
set_option autoImplicit false
namespace Gd
open PySem PySem.Spec PyProof.Rows L2

/-! ### own exceptions with the __init__ of their base: made as values -/
/-- where that __init__ stands -/
def AtI (K : PySem.W.Frag) (fI : Addr) (qual : Str) (st : Stmt) (ps : List Str) : Prop := ∃ fd, Fun K "__init__" qual st fI fd ∧ Binds K fd ps []
structure DnI (P : Program) (w : World) (K : PySem.W.Frag) (mg : Str → Option Value) (base : Heap) (k : Nat) (fI : Addr) (qual : Str) (st : Stmt) (ps : List Str) (sp : Sp) : Prop where
  ex : ∃ fd, Fun K "__init__" qual st fI fd ∧ Binds K fd ps [] ∧ FnOk P w K mg base CX0 k fI fd ps sp
theorem DnI.mk' {P : Program} {w : World} {K : PySem.W.Frag} {mg : Str → Option Value} {base : Heap} {fI : Addr} {qual : Str} {st : Stmt} {ps : List Str} {k : Nat} {sp : Sp} (h : AtI K fI qual st ps)
    (ok : ∀ f fd, Fun K "__init__" qual st f fd → FnOk P w K mg base CX0 k f fd ps sp) : DnI P w K mg base k fI qual st ps sp := by
  obtain ⟨fd, F, b⟩ := h
  exact ⟨fd, F, b, ok fI fd F⟩
/-- what the top has left of such a class -/
structure ExT (K : PySem.W.Frag) (mg : Str → Option Value) (C fI : Addr) (x : Str) : Prop where
  ox : OexC K C
  mg_ : mg x = some (.ref C)
  iC : PySem.W.findIn K (.ref C) "__init__" = some (some (.ref fI))
  tI : PySem.W.typeIn K (.ref fI) = some (.type "function")
  nV : PySem.W.findIn K (.ref C) "value" = some none
  hg : PySem.W.findIn K (.ref C) "__getattribute__" = some (some (.builtin "BaseException.__getattribute__"))
  hk : PySem.W.findIn K (.ref C) "__getattr__" = some none
  hd : PySem.W.hasDictIn K C = true
  ha : PySem.W.findIn K (.ref C) "__class__" = some (some (.builtin "object.__class__"))
  hn : PySem.W.specialIn K (.builtin "object.__class__") "__get__" = some (some (.builtin "getset_descriptor.__get__"))
  ht : PySem.W.takesIn K (.builtin "object.__class__") = some true
  hm : PySem.W.mroIn K C (.type "object") = some true
/-- at a: an exception of the class at C that bears v -/
def ErrAt (H : Hp) (C : Addr) (a : Addr) (v : V) : Prop := ∃ d, H a = some (exo a C (some d)) ∧ H d = some (exd d [("value", v)])
theorem ErrAt.same {H H' : Hp} {C a : Addr} {v : V} (k : Same H H') (h : ErrAt H C a v) : ErrAt H' C a v := by
  obtain ⟨d, h1, h2⟩ := h
  exact ⟨d, k _ _ h1, k _ _ h2⟩
/-- the promise of __init__ -/
def spIni (K : PySem.W.Frag) : Sp := fun vs H Q _ => ∃ a C v, vs = [.ref a, v] ∧ OexC K C ∧ PySem.W.findIn K (.ref C) "value" = some none ∧ H a = some (exo a C none) ∧
  ∀ dx, H dx = none → dx ≠ a → Q .non (upd (upd H dx (exd dx [("value", v)])) a (exo a C (some dx)))
/-- C(e, ..), as a value -/
def tMkV (C : Addr) (sp : Sp) (ta : TA) : TE := fun σ H Q => ta σ H fun vs H1 => vs.length ≤ 1000 ∧ ∀ a, H1 a = none → sp (.ref a :: vs) (upd H1 a (exo a C none)) (fun v H2 => v = .non ∧ Q (.ref a) H2) E0
section
variable {X : Cx} {x qual : Str} {st : Stmt} {ps : List Str} {sp : Sp} {k j : Nat} {e : Expr} {es : List Expr} {ta : TA} {p pos : Pos} {C fI : Addr}
theorem pe_mkE (T : ExT X.K X.mg C fI x) (D : DnI X.prog X.w X.K X.mg X.base k fI qual st ps sp) (hr : Room j X.A) (hg : Gl X x) (ha : PA X (e :: es) ta) (hk : k + 1 ≤ j := by decide)
    (hdb : (x == ("__debug__" : Str)) = false := by decide) (he : starEach (e :: es) X.env = (false, eval e X.env) :: starEach es X.env := by rfl)
    (hpl : (backTo pos (starEach es X.env)).any (·.1) = false := by rfl) :
    PE X (.Call (.Name x p) (e :: es) [] pos) (tMkV C sp ta) := by
  obtain ⟨fd, F, b, ok⟩ := D.ex
  have hr' := hr.mono hk
  refine ⟨fun pins s σ H Q I h => ?_⟩
  obtain ⟨nm, q, N, bs, bm, sn, sub, ab, col, dd, k0, k1, k2, k3, k5, hC, hbm⟩ := T.ox.cls
  refine wpAny_Call_Name_kw (ld_glob I hg T.mg_ ?_ hdb)
  refine PySem.W.callWith_K (h₀ := X.base) I.ok.mod.kin T.ox.kC (thn (ha.run pos pins s σ H _ I h) fun us s1 got => ?_) he hpl
  obtain ⟨vs, H1, I1, r1, hz, q1⟩ := got
  refine ⟨I1.kIn, ?_⟩
  show wpAny _ _ (call (.ref C) us) _ _ _
  obtain ⟨hp, g, dr, tk, os⟩ := s1
  have big : hp.objs.size ≤ hp.objs.size + 1 := Nat.le_succ _
  have new : H1 (hp.objs.size + 1) = none := I1.hok.fresh big
  have hq := q1 (hp.objs.size + 1) new
  have grow : ∀ b o, hp.get? b = some o → ((hp.push (PySem.W.kdv_tup us)).push (PySem.HandSPX.excO C hp.objs.size)).get? b = some o := fun b o z => Heap.get?_push_of_some _ (Heap.get?_push_of_some _ z)
  have there : ((hp.push (PySem.W.kdv_tup us)).push (PySem.HandSPX.excO C hp.objs.size)).get? (hp.objs.size + 1) = some (PySem.HandSPX.excO C hp.objs.size) := by heap_get
  have I2 : Inv X pins σ (upd H1 (hp.objs.size + 1) (exo (hp.objs.size + 1) C none)) ⟨(hp.push (PySem.W.kdv_tup us)).push (PySem.HandSPX.excO C hp.objs.size), g, dr, tk, os⟩ := I1.laid (t' := tk) grow big (exo_ok there)
  have r2 : Vals (V.ref (hp.objs.size + 1) :: vs) (Value.ref (hp.objs.size + 1) :: us) := .cons rfl r1
  have cnt : (Value.ref (hp.objs.size + 1) :: us).length = ps.length := by
    rw [← r2.length]
    exact ok.len _ _ _ _ hq
  have bnd : BindsTo ⟨(hp.push (PySem.W.kdv_tup us)).push (PySem.HandSPX.excO C hp.objs.size), g, dr, tk, os⟩ fd ⟨Value.ref (hp.objs.size + 1) :: us, []⟩ (ps.zip (Value.ref (hp.objs.size + 1) :: us)) := by
    have z := b _ (Value.ref (hp.objs.size + 1) :: us) I2.kIn (by simpa using cnt)
    simpa using z
  have few : us.length ≤ sizeLine := by
    rw [← Paired.length r1, sizeLine_eq]
    omega
  refine wpAny_call (PySem.HandSPX.call_own PySem.F.excBase_ValueError (fun Y => PySem.HandSPX.refsVE_contains Y bm hbm) (I1.kIn _ _ hC) (PySem.W.looks_findIn I1.kIn T.iC) (fun self => PySem.W.bind_fn I1.kIn self T.tI) few ?_)
  refine codeAny_mono (ok.run _ X.stack _ _ ⟨Value.ref (hp.objs.size + 1) :: us, []⟩ (Value.ref (hp.objs.size + 1) :: us) _ _ E0 (hr'.make C us []) (I2.env0.make C us []) bnd r2 hq) fun r s' post => ?_
  cases r with
  | error er => exact (post : False).elim
  | ok fl =>
    cases fl with
    | ret u =>
      obtain ⟨v, H3, I3, rv, ev, q3⟩ := I2.after post
      subst ev
      exact ⟨rv, .ref (hp.objs.size + 1), H3, I3, rfl, q3⟩
    | next => exact (post : False).elim
    | brk => exact (post : False).elim
    | cont => exact (post : False).elim
end
/-- an exception is made -/
theorem mk_err {K : PySem.W.Frag} {C : Addr} {H1 : Hp} {v : V} {Q : Addr → Hp → Prop} {E : XK} (T : OexC K C) (n : PySem.W.findIn K (.ref C) "value" = some none)
    (q : ∀ a H', Same H1 H' → H1 a = none → ErrAt H' C a v → Q a H') :
    ∀ a, H1 a = none → spIni K (.ref a :: [v]) (upd H1 a (exo a C none)) (fun u H2 => u = .non ∧ Q a H2) E := by
  intro a na
  refine ⟨a, C, v, rfl, T, n, upd_same, fun dx nd ne => ⟨rfl, ?_⟩⟩
  have nd1 : H1 dx = none := by rw [upd_ne ne] at nd; exact nd
  refine q a _ (fun b o e => ?_) na ⟨dx, upd_same, ?_⟩
  · rw [upd_ne (ne_of_none e na), upd_ne (ne_of_none e nd1), upd_ne (ne_of_none e na)]
    exact e
  · rw [upd_ne ne, upd_same]
/-! ### e.value -/
def tVal (ta : TE) (C : Addr → Prop) : TE := fun σ H Q => ta σ H fun x H1 => ∃ a c v, x = .ref a ∧ C c ∧ ErrAt H1 c a v ∧ Q v H1
theorem err_inst {X : Cx} {pins : List (Addr × Obj)} {σ : L2.St} {H : Hp} {s : Shared} {C a : Addr} {v : V} (I : Inv X pins σ H s) (h : ErrAt H C a v) :
    ∃ (oe od : Obj) (u : Value), PySem.W.InstAt s.heap a oe C (some od) ∧ RelV v u ∧ PySem.W.lookIn "value" od = some (some u) := by
  obtain ⟨d, e1, e2⟩ := h
  obtain ⟨t1, he⟩ := exo_at I.hok e1
  obtain ⟨mA, ns, rel⟩ := exd_at I.hok e2
  obtain ⟨od, ho, hl⟩ := lookIn_ns ns
  have l : List.lookup ("value" : Str) [(("value" : Str), v)] = some v := by simp [List.lookup]
  obtain ⟨u, hu, ru⟩ := RelO.some_of (v := v) (o := mA "value") (by rw [← l]; exact rel "value")
  exact ⟨_, od, u, ⟨he, rfl, rfl, ho⟩, ru, by rw [hl, hu]⟩
theorem pe_val {X : Cx} {e : Expr} {te : TE} {pos : Pos} {S : Addr → Prop} (T : ∀ c, S c → ∃ fI x, ExT X.K X.mg c fI x) (he : PE X e te) (hb : attributeBase e "value" X.env (eval e X.env) = eval e X.env := by rfl) :
    PE X (.Attribute e "value" pos) (tVal te S) := by
  refine ⟨fun pins s σ H Q I h => ?_⟩
  refine attr_of hb (thn (he.run pins s σ H _ I h) fun u s1 got => ?_)
  obtain ⟨x, H1, I1, rx, a, c, v, ex, sc, ea, q⟩ := got
  subst ex
  obtain rfl : u = Value.ref a := rx
  obtain ⟨fI, y, T⟩ := T c sc
  obtain ⟨oe, od, w, J, ru, hl⟩ := err_inst I1 ea
  exact HandSPX.exc_get I1.kIn J T.hg T.hk T.ox.exC (PySem.W.findObj_own T.hd T.nV rfl hl) (handed_of ru) ⟨v, H1, I1.tok _, ru, q⟩
/-! ### isinstance(e, D) of such an exception -/
end Gd
namespace PySem.W
open PySem PySem.Spec PySem.Calls PyProof.Rows
section
variable {prog : Program} {w : World} {A : Around} {E : Value → Shared → Prop} {s : Shared} {K : Frag} {x D : Addr} {ox : Obj} {od : Option Obj}
theorem gd_findCls (c : (clsIn K D).isSome = true) {a g : Value} {n : Str} (f : findIn K (.ref D) n = some (some a)) (gt : specialIn K a "__get__" = some (some g)) (tk : takesIn K a = some true) : findObj K D od n = some (.bind g a) := by
  obtain ⟨cd, e⟩ := Option.isSome_iff_exists.mp c
  simp [findObj, e, f, gt, tk]
theorem gd_readCls {Q : Option Value → Shared → Prop} (ga : findIn K (.ref D) "__getattribute__" = some (some (.builtin "BaseException.__getattribute__"))) (gg : findIn K (.ref D) "__getattr__" = some none)
    (isE : subIn K (.ref D) (.type "BaseException") = some true) (c : (clsIn K D).isSome = true) (fc : findIn K (.ref D) "__class__" = some (some (.builtin "object.__class__")))
    (gt : specialIn K (.builtin "object.__class__") "__get__" = some (some (.builtin "getset_descriptor.__get__"))) (tk : takesIn K (.builtin "object.__class__") = some true) (mo : mroIn K D (.type "object") = some true)
    (Y : K.In s.heap) (J : InstAt s.heap x ox D od) (q : Q (some (.ref D)) { s with toks := s.toks + 1 }) : wpAny (model prog w) A (getAttr? (.ref x) "__class__") Q E s := by
  obtain ⟨hp, g, d, t, os⟩ := s
  have own : Looks (model prog w) hp (typeOf (.ref x)) (.ref D) := J.type
  have lga := looks_findIn (M := model prog w) Y ga
  have lgg := looks_findIn (M := model prog w) Y gg
  have lfc := looks_find (M := model prog w) Y J (gd_findCls (od := od) c fc gt tk)
  have exc : Looks (model prog w) hp (isInstance (.ref x) (.type "BaseException")) true := own.andThen (looks_subIn Y isE)
  have ne : (Value.builtin "BaseException.__getattribute__" == Value.builtin "object.__getattribute__") = false := by decide +kernel
  unfold getAttr? getAttrBy? getAttrBy
  refine wpAny_bind (wpAny_mkText (wpAny_bind (wpAny_attempt (wpAny_holding (wpAny_bind (own.at (wpAny_bind (lga.at ?_))))))))
  show wpAny _ _ (if (onTheHeap (Value.ref D) && (Value.builtin "BaseException.__getattribute__" == Value.builtin "object.__getattribute__")) = true then _ else _) _ _ _
  rw [ne, Bool.and_false, if_neg Bool.false_ne_true]
  unfold getAttrByItsOwn hookBefore
  refine wpAny_bind ?_
  rw [if_pos (show onTheHeap (Value.ref D) = true by rfl)]
  refine lgg.at (wpAny_bind (wpAny_attempt (wpAny_holding ?_)))
  unfold callGetattribute boundAndCalled
  rw [if_neg (by decide), PySem.F.excAttr_ValueError.ga.bind (.ref x)]
  refine wpAny_bind (wpAny_pure ?_)
  show wpAny _ _ (call (.builtin "BaseException.__getattribute__") [.ref x, .str "__class__" t]) _ _ _
  refine wpAny_call (codeAny_call_builtin PySem.F.excAttr_ValueError.ga.plain PySem.F.entry_bexc_ga ?_)
  refine @check_slot (model prog w) _ _ ⟨hp, g, d, t + 1, os⟩ "BaseException.__getattribute__" "BaseException" "__getattribute__" (.ref x) [.str "__class__" t] [] _ (by decide +kernel) (by decide +kernel) exc (PySem.F.args_bexc_ga (.ref x) (.str "__class__" t)) ?_
  unfold Builtin.«object.__getattribute__»
  refine wpAny_bind (wpAny_of_eq (a := ((Value.ref x : Value), [Value.str "__class__" t])) (by first | rfl | (simp only [slotArgs]; rfl)) (wpAny_bind (wpAny_pure (wpAny_bind (own.at (wpAny_bind (lfc.at ?_)))))))
  show wpAny _ _ (holding [Value.builtin "object.__class__"] (call (.builtin "getset_descriptor.__get__") [.builtin "object.__class__", .ref x, .ref D]) >>= ret) _ _ _
  refine wpAny_bind (wpAny_holding (wpAny_call (class_get (s := ⟨hp, g, d, t + 1, os⟩) (ox := ox) (od := od) Y J mo (wpAny_pure ?_))))
  show wpAny _ _ (handedOut (.ref D)) _ _ _
  rw [handedOut_of (v := .ref D) rfl]
  first
    | exact wpAny_pure (wpAny_pure q)
    | exact wpAny_pure q
    | exact wpAny_pure (wpAny_bind (wpAny_pure (wpAny_pure q)))
end
end PySem.W
namespace Gd
open PySem PySem.Spec PyProof.Rows L2
theorem err_kit {K : PySem.W.Frag} {mg : Str → Option Value} {C fI a : Addr} {x : Str} (T : ExT K mg C fI x) : PySem.W.KitX K (.ref a) (.ref C) (fun h => ∃ ox od, PySem.W.InstAt h a ox C od) where
  ty := fun _ _ _ ⟨_, _, J⟩ => J.type
  it := fun M h Y _ => by
    obtain ⟨nm, q, N, bs, bm, sn, sub, ab, col, dd, k0, k1, k2, k3, k5, hC, _⟩ := T.ox.cls
    intro A Q E s k z
    unfold isType loadHead
    exact wpAny_bind (wpAny_loadPart (k _ _ (Y _ _ hC)) (wpAny_pure z))
  ne := fun h tp dd its n sl Y e => by
    obtain ⟨nm, q, N, bs, bm, sn, sub, ab, col, dd, k0, k1, k2, k3, k5, hC, _⟩ := T.ox.cls
    refine Bool.eq_false_iff.mpr fun z => ?_
    have z2 : C = tp := Value.ref.inj (beq_iff_eq.mp z)
    subst z2
    have z3 : Value.type "type" = Value.type "tuple" := congrArg Obj.cls (Option.some.inj ((Y _ _ hC).symm.trans e))
    exact absurd (Value.type.inj z3) (by decide)
  ca := fun Y ⟨_, _, J⟩ k => by
    obtain ⟨cd, hc, _⟩ := PySem.W.any_some T.hd
    exact PySem.W.gd_readCls T.hg T.hk T.ox.exC (by rw [hc]; rfl) T.ha T.hn T.ht T.hm Y J k
/-- isinstance(e, c) -/
def rIsX (K : PySem.W.Frag) (S : Addr → Prop) : List V → Hp → VK → Prop := fun xs H Q => ∃ (a C : Addr) (v c : V) (cv : Value) (b : Bool), xs = [.ref a, c] ∧ S C ∧ ErrAt H C a v ∧ (∀ u, RelV c u → u = cv) ∧ PySem.W.kitOne K (.ref C) cv = some b ∧ Q (.bl b) H
theorem call_isX {X : Cx} {S : Addr → Prop} (T : ∀ c, S c → ∃ fI x, ExT X.K X.mg c fI x) : CallR X (.builtin "isinstance") (rIsX X.K S) := by
  intro pins s σ H xs us Q I r h
  obtain ⟨a, C, v, c, cv, b, rfl, sc, ea, hcv, e, q⟩ := h
  cases r with
  | cons rx rr =>
    cases rr with
    | cons rt rr =>
      cases rr
      cases rx
      have ec := hcv _ rt
      subst ec
      obtain ⟨fI, y, T⟩ := T C sc
      obtain ⟨oe, od, w, J, _⟩ := err_inst I ea
      exact PySem.W.kia_one (err_kit T) I.kIn ⟨_, _, J⟩ e (fun z => nomatch z) fun tk => ⟨.bl b, H, I.kept (t' := tk) fun _ _ z => z, rfl, q⟩
end Gd

set_option Elab.async false
set_option linter.all false
set_option maxRecDepth 100000
set_option maxHeartbeats 4000000
set_option autoImplicit false
namespace PySem
namespace HandSPX
open PySem.W PySem.Calls PyProof.Rows
section
variable {prog : Program} {w : World} {A : Around} {E : Value → Shared → Prop} {R : Result → Shared → Prop} {h : Heap} {g : Array GenState} {d : Drawn} {t : Nat} {os : OsState}
variable {nm q : Str} {C N : Addr} {bs bm bmB : List Value} {hdct : Bool} {sn : List Str} {sub : List Value} {ab : Bool} {col : Option Bool} {dd : Option Addr} {k0 k1 k2 k3 k5 : Option Value} {B newId initId : String} {n : Str} {u : Value}
theorem gd_checkK (V : ExcBaseFacts B newId initId bmB) (hT : ∀ X : String, bm.contains (.type X) = bmB.contains (.type X)) {Q : Unit → Shared → Prop}
    (hC : h.get? C = some (excClassObj nm q C N bs bm hdct sn sub ab col dd k0 k1 k2 k3 k5 newId)) (hq : Q () ⟨h, g, d, t, os⟩) : wpAny (model prog w) A (checkBuiltinCall newId ⟨[.ref C], [(n, u)]⟩) Q E ⟨h, g, d, t, os⟩ := by
  have has : (Value.ref C :: bm).contains (.type B) = true := by rw [List.contains_cons, hT, V.hasB, Bool.or_true]
  have star := V.noStar
  simp only [checkBuiltinCall, V.newKind, V.newSplit, V.newRow]
  repeat (first | refine wpAny_loadPart_at hC ?_ | (refine wpAny_isSubtype_exc hC ?_; rw [has]) | refine wpAny_staticBase_exc hC ?_ | refine wpAny_madeBy_exc hC ?_ | simp only [bne_self_eq_false, Bool.false_eq_true, if_false] | wp_step)
  exact hq
theorem gd_newK (V : ExcBaseFacts B newId initId bmB) (hT : ∀ X : String, bm.contains (.type X) = bmB.contains (.type X))
    (hC : h.get? C = some (excClassObj nm q C N bs bm hdct sn sub ab col dd k0 k1 k2 k3 k5 newId))
    (hq : R (.ok (.ret (.ref (h.objs.size + 1)))) ⟨(h.push (W.kdv_tup [])).push (excO C h.objs.size), g, d, t, os⟩) :
    codeAny (model prog w) A (.builtin newId ⟨[.ref C], [(n, u)]⟩) R ⟨h, g, d, t, os⟩ := by
  have ends := V.ends
  have has : (Value.ref C :: bm).contains (.type B) = true := by rw [List.contains_cons, hT, V.hasB, Bool.or_true]
  have noA : (Value.ref C :: bm).contains (.type "AttributeError") = false := by rw [List.contains_cons, hT, V.noAttr]; rfl
  have noN : (Value.ref C :: bm).contains (.type "NameError") = false := by rw [List.contains_cons, hT, V.noName]; rfl
  have few : ([] : List Value).length ≤ sizeLine := Nat.zero_le _
  refine codeAny_builtinAt V.entry ?_
  unfold Builtin.«BaseException.__new__»
  refine wpAt_bind ?_
  show wpAt _ _ _ (stack >>= _) _ _ _
  refine wpAt_bind (wpAt_stack fun p below => wpAt_of_wpAny ?_)
  wp_walk
  refine wpAt_of_wpAny ?_
  rw [V.owner]
  repeat (first | with_reducible refine wpAny_madeHere_exc V.canon hC ?_ | with_reducible refine wpAny_loadPart_at hC ?_ | (with_reducible refine wpAny_isSubtype_exc hC ?_; first | rw [has] | rw [noA] | rw [noN]) | wp_step)
  show R _ _
  rw [Heap.size_push]
  exact hq
theorem gd_typeCallK (V : ExcBaseFacts B newId initId bmB) (hT : ∀ X : String, bm.contains (.type X) = bmB.contains (.type X)) {fI : Addr} {Q : Fin → Shared → Prop}
    (hC : h.get? C = some (excClassObj nm q C N bs bm hdct sn sub ab col dd k0 k1 k2 k3 k5 newId))
    (hi : W.Looks (model prog w) h (typeLookup (.ref C) "__init__") (some (.ref fI))) (hb : ∀ self, W.Looks (model prog w) h (bindSpecial (.ref fI) self) (.ref fI, [self]))
    (hq : codeAny (model prog w) A (.call (.ref fI) ⟨[.ref (h.objs.size + 1)], [(n, u)]⟩)
      (fun r s' => match r with | .ok (.ret v) => v = .none ∧ Q (.done (.ret (.ref (h.objs.size + 1)))) s' | .ok _ => False | .error e => E e s')
      ⟨(h.push (W.kdv_tup [])).push (excO C h.objs.size), g, d, t, os⟩) :
    wpAny (model prog w) A (Builtin.«type.__call__» ⟨[.ref C], [(n, u)]⟩) Q E ⟨h, g, d, t, os⟩ := by
  repeat (first | with_reducible refine wpAny_loadPart_at hC ?_ | with_reducible refine wpAny_madeBy_exc hC ?_ | wp_step)
  refine codeAny_call_builtin_code (Code.quiet_builtin _ V.quiet) (gd_checkK V hT hC ?_)
  refine gd_newK V hT hC ?_
  show wpAny _ _ _ _ _ _
  have grow : ∀ b o, h.get? b = some o → ((h.push (W.kdv_tup [])).push (excO C h.objs.size)).get? b = some o := fun b o e => Heap.get?_push_of_some _ (Heap.get?_push_of_some _ e)
  have hC1 := grow _ _ hC
  have there : ((h.push (W.kdv_tup [])).push (excO C h.objs.size)).get? (h.objs.size + 1) = some (excO C h.objs.size) := by heap_get
  have self : (Value.ref C :: bm).contains (.ref C) = true := by simp
  have i1 := hi.keeps grow
  have b1 := (hb (.ref (h.objs.size + 1))).keeps grow
  unfold isInstance
  repeat (first | with_reducible refine wpAny_loadPart_at there ?_ | (with_reducible refine wpAny_isSubtype_exc hC1 ?_; rw [self]) | wp_step)
  show wpAny _ _ (typeLookup (.ref C) _) _ _ _
  refine i1.at (wpAny_holding (wpAny_bind (b1.at ?_)))
  refine wpAny_bind (wpAny_call (codeAny_mono hq fun r s' z => ?_))
  rcases r with e | (v | _ | _ | _) <;> first | exact z | exact z.elim | skip
  obtain ⟨rfl, z⟩ := z
  first
    | exact wpAny_pure (wpAny_pure z)
    | (wp_walk; exact z)
theorem gd_callK (V : ExcBaseFacts B newId initId bmB) (hT : ∀ X : String, bm.contains (.type X) = bmB.contains (.type X)) {fI : Addr}
    (hC : h.get? C = some (excClassObj nm q C N bs bm hdct sn sub ab col dd k0 k1 k2 k3 k5 newId))
    (hi : W.Looks (model prog w) h (typeLookup (.ref C) "__init__") (some (.ref fI))) (hb : ∀ self, W.Looks (model prog w) h (bindSpecial (.ref fI) self) (.ref fI, [self]))
    (hq : codeAny (model prog w) (A.under (.builtin "type.__call__" ⟨[.ref C], [(n, u)]⟩)) (.call (.ref fI) ⟨[.ref (h.objs.size + 1)], [(n, u)]⟩) (W.InitBack (h.objs.size + 1) R)
      ⟨(h.push (W.kdv_tup [])).push (excO C h.objs.size), g, d, t, os⟩) :
    codeAny (model prog w) A (.call (.ref C) ⟨[], [(n, u)]⟩) R ⟨h, g, d, t, os⟩ := by
  have f1 := tc_lookup
  have f2 := tc_bind (.ref C)
  have isT : (⟨h, g, d, t, os⟩ : Shared).TypeIs (.ref C) "type" := ⟨_, hC, rfl⟩
  refine codeAny_of_tree ?_
  show wpAny _ _ (callAny (.ref C) _) _ _ _
  repeat (any_goals (first | assumption | with_reducible refine wpAny_loadPart_at hC ?_ | wp_step))
  refine ⟨rfl, ?_⟩
  refine codeAny_call_builtin_at (Code.quiet_builtin _ (by decide +kernel)) entry_typeCall (wpAny_check_type_call_sub hC (gd_typeCallK V hT hC hi hb ?_))
  refine codeAny_mono hq fun r s' z => ?_
  rcases r with e | (v | _ | _ | _) <;> exact z
end
end HandSPX
end PySem
namespace Gd
open PySem PySem.Spec PyProof.Rows L2
/-- C(n = e), as a value -/
def tMkK (C : Addr) (sp : Sp) (tk : TA) : TE := fun σ H Q => tk σ H fun vs H1 => vs.length = 1 ∧ ∀ a, H1 a = none → sp (.ref a :: vs) (upd H1 a (exo a C none)) (fun v H2 => v = .non ∧ Q (.ref a) H2) E0
section
variable {X : Cx} {x qual n : Str} {st : Stmt} {ps : List Str} {sp : Sp} {k j : Nat} {kws : List Keyword} {tk : TA} {p pos : Pos} {C fI : Addr}
theorem pe_mkEk (T : ExT X.K X.mg C fI x) (D : DnI X.prog X.w X.K X.mg X.base k fI qual st ps sp) (hr : Room j X.A)
    (kb : ∀ fd, Fun X.K "__init__" qual st fI fd → ∀ (s : Shared) (a u : Value), BindsTo s fd ⟨[a], [(n, u)]⟩ (ps.zip [a, u])) (hg : Gl X x) (hkw : PK X kws tk) (hk : k + 1 ≤ j := by decide)
    (hall : (backToKw pos (keywordEach kws X.env)).all (·.1.isSome) = true := by rfl) (hks : (backToKw pos (keywordEach kws X.env)).filterMap (·.1) = [n] := by rfl)
    (hdb : (x == ("__debug__" : Str)) = false := by decide)
    (hpl : ((backTo pos (starEach [] X.env)).any (·.1) || (backToKw pos (keywordEach kws X.env)).any (·.1.isNone)) = false := by rfl) :
    PE X (.Call (.Name x p) [] kws pos) (tMkK C sp tk) := by
  obtain ⟨fd, F, b, ok⟩ := D.ex
  have hr' := hr.mono hk
  refine ⟨fun pins s σ H Q I h => ?_⟩
  obtain ⟨nm, q, N, bs, bm, sn, sub, ab, col, dd, k0, k1, k2, k3, k5, hC, hbm⟩ := T.ox.cls
  refine wpAny_Call_Name_kw (ld_glob I hg T.mg_ ?_ hdb)
  refine PySem.W.callWith_KW0 (h₀ := X.base) I.ok.mod.kin T.ox.kC hall ?_ hpl
  refine thn (hkw.run pos pins s σ H _ I h) fun us s1 got => ?_
  obtain ⟨vs, H1, I1, r1, hz, q1⟩ := got
  refine ⟨I1.kIn, ?_⟩
  rw [hks]
  match vs, us, r1, hz, q1 with
  | [v], [u], r1, hz, q1 =>
    show wpAny _ _ (call (.ref C) [] [(n, u)]) _ _ _
    obtain ⟨hp, g, dr, tkn, os⟩ := s1
    have big : hp.objs.size ≤ hp.objs.size + 1 := Nat.le_succ _
    have new : H1 (hp.objs.size + 1) = none := I1.hok.fresh big
    have hq := q1 (hp.objs.size + 1) new
    have grow : ∀ b o, hp.get? b = some o → ((hp.push (PySem.W.kdv_tup [])).push (PySem.HandSPX.excO C hp.objs.size)).get? b = some o := fun b o z => Heap.get?_push_of_some _ (Heap.get?_push_of_some _ z)
    have there : ((hp.push (PySem.W.kdv_tup [])).push (PySem.HandSPX.excO C hp.objs.size)).get? (hp.objs.size + 1) = some (PySem.HandSPX.excO C hp.objs.size) := by heap_get
    have I2 : Inv X pins σ (upd H1 (hp.objs.size + 1) (exo (hp.objs.size + 1) C none)) ⟨(hp.push (PySem.W.kdv_tup [])).push (PySem.HandSPX.excO C hp.objs.size), g, dr, tkn, os⟩ := I1.laid (t' := tkn) grow big (exo_ok there)
    have r2 : Vals [V.ref (hp.objs.size + 1), v] [Value.ref (hp.objs.size + 1), u] := .cons rfl r1
    have bnd := kb fd F ⟨(hp.push (PySem.W.kdv_tup [])).push (PySem.HandSPX.excO C hp.objs.size), g, dr, tkn, os⟩ (Value.ref (hp.objs.size + 1)) u
    refine wpAny_call (PySem.HandSPX.gd_callK PySem.F.excBase_ValueError (fun Y => PySem.HandSPX.refsVE_contains Y bm hbm) (I1.kIn _ _ hC) (PySem.W.looks_findIn I1.kIn T.iC) (fun self => PySem.W.bind_fn I1.kIn self T.tI) ?_)
    refine codeAny_mono (ok.run _ X.stack _ _ ⟨[Value.ref (hp.objs.size + 1)], [(n, u)]⟩ [Value.ref (hp.objs.size + 1), u] _ _ E0 (hr'.make C [] [(n, u)]) (I2.env0.make C [] [(n, u)]) bnd r2 hq) fun r s' post => ?_
    cases r with
    | error er => exact (post : False).elim
    | ok fl =>
      cases fl with
      | ret w =>
        obtain ⟨v3, H3, I3, rv, ev, q3⟩ := I2.after post
        subst ev
        exact ⟨rv, .ref (hp.objs.size + 1), H3, I3, rfl, q3⟩
      | next => exact (post : False).elim
      | brk => exact (post : False).elim
      | cont => exact (post : False).elim
end
/-- repr of anything short -/
theorem call_reprV {X : Cx} {k : Nat} (gd : X.A.guards = some []) (hr : Room k X.A) : CallR X (.builtin "repr") (fun xs H Q => ∃ v d n k, xs = [v] ∧ Dp X.K H v d ∧ DOk n k d ∧ n ≤ 200000 ∧ k ≤ 64 ∧ Q (.str d.shown) H) := by
  intro pins s σ H xs us Q I r h
  obtain ⟨v, d, n, j, rfl, dp, ok, hn, hj, q⟩ := h
  have fits := ok.fits hn
  cases dp with
  | non =>
    obtain ⟨u, rfl, ru⟩ := vals1 r
    cases ru
    rw [PyData.shown_none] at q
    exact PySem.P.repr_of_none ⟨.str "None", H, I.tok _, ⟨_, rfl⟩, q⟩
  | bl b =>
    obtain ⟨u, rfl, ru⟩ := vals1 r
    cases ru
    rw [PyData.shown_bool] at q
    exact PySem.P.repr_of_bool ⟨.str (if b then "True" else "False"), H, I.tok _, ⟨_, rfl⟩, by cases b <;> exact q⟩
  | int i =>
    obtain ⟨u, rfl, t, rfl⟩ := vals1 r
    have z : i.natAbs.log2 < 1920 := by simpa [PyData.showable] using ok.shw
    rw [PyData.shown_int] at q
    exact PySem.P.repr_of_int z ⟨.str _, H, I.tok _, ⟨_, rfl⟩, q⟩
  | str x =>
    obtain ⟨u, rfl, t, rfl⟩ := vals1 r
    have e : (PyData.str x).shown = reprText x := by simp [PyData.shown]
    rw [e] at q fits
    exact PySem.P.repr_of_str ⟨.str _, H, I.tok _, ⟨_, rfl⟩, q⟩ fits
  | lst a b => exact call_reprD gd hr pins s σ H _ us Q I r ⟨_, _, n, j, rfl, .lst a b, ok, hn, hj, ⟨_, rfl⟩, q⟩
  | tup a b => exact call_reprD gd hr pins s σ H _ us Q I r ⟨_, _, n, j, rfl, .tup a b, ok, hn, hj, ⟨_, rfl⟩, q⟩
end Gd
namespace Gd
open PySem PySem.Spec PyProof.Rows L2
/-! ### all own exceptions of a text: the base first, the others below it -/
def errB (K : PySem.W.Frag) (C fI : Addr) : Bool :=
  decide (PySem.W.findIn K (.ref C) "__setattr__" = some (some (.builtin "object.__setattr__"))) && (decide (PySem.W.subIn K (.ref C) (.type "BaseException") = some true) && (decide (PySem.W.typeIn K (.ref C) = some (.type "type")) && (PySem.W.keepIn K (.ref C) &&
  (decide (PySem.W.findIn K (.ref C) "__init__" = some (some (.ref fI))) && (decide (PySem.W.findIn K (.ref C) "value" = some none) && (decide (PySem.W.findIn K (.ref C) "__getattribute__" = some (some (.builtin "BaseException.__getattribute__"))) &&
  (decide (PySem.W.findIn K (.ref C) "__getattr__" = some none) && (PySem.W.hasDictIn K C && (decide (PySem.W.findIn K (.ref C) "__class__" = some (some (.builtin "object.__class__"))) && decide (PySem.W.mroIn K C (.type "object") = some true))))))))))
def initB (K : PySem.W.Frag) (fI : Addr) : Bool :=
  decide (PySem.W.typeIn K (.ref fI) = some (.type "function")) && (decide (PySem.W.specialIn K (.builtin "object.__class__") "__get__" = some (some (.builtin "getset_descriptor.__get__"))) && decide (PySem.W.takesIn K (.builtin "object.__class__") = some true))
def kitB (K : PySem.W.Frag) (C : Addr) (i : Nat) : Nat → List Addr → Bool
  | _, [] => decide (PySem.W.kitOne K (.ref C) (.type "ValueError") = some true)
  | j, D :: ds => decide (PySem.W.kitOne K (.ref C) (.ref D) = some (decide (i = j ∨ j = 0))) && kitB K C i (j + 1) ds
theorem kitB_at {K : PySem.W.Frag} {C : Addr} {i : Nat} : ∀ {j : Nat} {ds : List Addr}, kitB K C i j ds = true → (∀ (m : Nat) D, ds[m]? = some D → PySem.W.kitOne K (.ref C) (.ref D) = some (decide (i = j + m ∨ j + m = 0))) ∧ PySem.W.kitOne K (.ref C) (.type "ValueError") = some true
  | j, [], h => ⟨fun m D e => by simp at e, of_decide_eq_true h⟩
  | j, D :: ds, h => by
    obtain ⟨h1, h2⟩ := Bool.and_eq_true_iff.mp h
    obtain ⟨a, b⟩ := kitB_at h2
    refine ⟨fun m D' e => ?_, b⟩
    cases m with
    | zero =>
      have e' : D = D' := by simpa using e
      subst e'
      exact of_decide_eq_true h1
    | succ m =>
      have z := a m D' (by simpa using e)
      rw [show j + 1 + m = j + (m + 1) by omega] at z
      exact z
structure ErrT (K : PySem.W.Frag) (mg : Str → Option Value) (cs : List Addr) (ns : List Str) (fI : Addr) : Prop where
  t : ∀ (i : Nat) C x, cs[i]? = some C → ns[i]? = some x → ExT K mg C fI x
  sub : ∀ (i j : Nat) C D, cs[i]? = some C → cs[j]? = some D → PySem.W.kitOne K (.ref C) (.ref D) = some (decide (i = j ∨ j = 0))
  subV : ∀ (i : Nat) C, cs[i]? = some C → PySem.W.kitOne K (.ref C) (.type "ValueError") = some true
  len : cs.length = ns.length
theorem ErrT.all {K : PySem.W.Frag} {mg : Str → Option Value} {cs : List Addr} {ns : List Str} {fI : Addr} (T : ErrT K mg cs ns fI) : ∀ c, c ∈ cs → ∃ fI x, ExT K mg c fI x := by
  intro c m
  obtain ⟨i, l, e⟩ := List.getElem_of_mem m
  exact ⟨fI, ns[i]'(by rw [← T.len]; exact l), T.t i c _ (by rw [List.getElem?_eq_getElem l, e]) (List.getElem?_eq_getElem (by rw [← T.len]; exact l))⟩
theorem ext_mk {K : PySem.W.Frag} {mg : Str → Option Value} {C fI : Addr} {x : Str} (cls : ∃ nm q N bs bm sn sub ab col dd k0 k1 k2 k3 k5, K.lookup C = some (excClassObj nm q C N bs bm true sn sub ab col dd k0 k1 k2 k3 k5 "ValueError.__new__") ∧ PySem.HandSPX.refsVE bm = true)
    (g : mg x = some (.ref C)) (h : errB K C fI = true) (i : initB K fI = true) : ExT K mg C fI x := by
  obtain ⟨a1, h⟩ := Bool.and_eq_true_iff.mp h
  obtain ⟨a2, h⟩ := Bool.and_eq_true_iff.mp h
  obtain ⟨a3, h⟩ := Bool.and_eq_true_iff.mp h
  obtain ⟨a4, h⟩ := Bool.and_eq_true_iff.mp h
  obtain ⟨a5, h⟩ := Bool.and_eq_true_iff.mp h
  obtain ⟨a6, h⟩ := Bool.and_eq_true_iff.mp h
  obtain ⟨a7, h⟩ := Bool.and_eq_true_iff.mp h
  obtain ⟨a8, h⟩ := Bool.and_eq_true_iff.mp h
  obtain ⟨a9, h⟩ := Bool.and_eq_true_iff.mp h
  obtain ⟨b1, b2⟩ := Bool.and_eq_true_iff.mp h
  obtain ⟨i1, i⟩ := Bool.and_eq_true_iff.mp i
  obtain ⟨i2, i3⟩ := Bool.and_eq_true_iff.mp i
  exact ⟨⟨cls, of_decide_eq_true a1, of_decide_eq_true a2, of_decide_eq_true a3, a4⟩, g, of_decide_eq_true a5, of_decide_eq_true i1, of_decide_eq_true a6, of_decide_eq_true a7, of_decide_eq_true a8, a9, of_decide_eq_true b1, of_decide_eq_true i2, of_decide_eq_true i3, of_decide_eq_true b2⟩
end Gd

namespace Pk56
open PySem PySem.Spec PyProof.Rows L2 Gd
def topS (i : Nat) : Stmt := PySem.Challenge.pw_tightranges_k56_errors_made.main.body.getD i (.Pass ⟨0, 0, 0, 0⟩)
abbrev s_RangeError___init__ : Stmt := inClass (topS 1) 0
theorem sc_RangeError___init__ : FnScope ["self", "value"] ["self", "value"] (defScope s_RangeError___init__) := ⟨rfl, rfl, rfl, by decide +kernel, rfl, by decide +kernel, by decide +kernel⟩
abbrev s__law_bag : Stmt := topS 12
theorem sc__law_bag : FnScope ["script", "blend", "great", "cell"] ["script"] (defScope s__law_bag) := ⟨rfl, rfl, rfl, by decide +kernel, rfl, by decide +kernel, by decide +kernel⟩
abbrev s__law_draw : Stmt := topS 13
theorem sc__law_draw : FnScope ["bag", "many", "drawn", "turn", "mixed"] ["bag", "many"] (defScope s__law_draw) := ⟨rfl, rfl, rfl, by decide +kernel, rfl, by decide +kernel, by decide +kernel⟩
abbrev s__law_made : Stmt := topS 14
theorem sc__law_made : FnScope ["thing", "found"] ["thing"] (defScope s__law_made) := ⟨rfl, rfl, rfl, by decide +kernel, rfl, by decide +kernel, by decide +kernel⟩
abbrev s__law_flags : Stmt := topS 15
theorem sc__law_flags : FnScope ["e", "flags"] ["e"] (defScope s__law_flags) := ⟨rfl, rfl, rfl, by decide +kernel, rfl, by decide +kernel, by decide +kernel⟩
abbrev s_law : Stmt := topS 16
theorem sc_law : FnScope ["script", "bag", "turn", "thing", "made", "place", "e", "spot"] ["script"] (defScope s_law) := ⟨rfl, rfl, rfl, by decide +kernel, rfl, by decide +kernel, by decide +kernel⟩

theorem powW_of {x j : Int} {a : Nat} (h : x.natAbs < 2 ^ a) (h0 : 0 < a) (j0 : 0 ≤ j) (h2 : (a : Int) * j ≤ 100000) : CPowW x j := by
  have l := PySem.Flt.log2_lt_of h0 h
  have b : Builtin.Int.intBits x ≤ a := by
    unfold Builtin.Int.intBits
    split <;> omega
  refine ⟨j0, ?_⟩
  have e : (2 : Int) ^ 27 = 134217728 := by decide
  rw [e]
  have b' : (Builtin.Int.intBits x : Int) ≤ a := by omega
  have := Int.mul_le_mul_of_nonneg_right b' j0
  omega
theorem ten18 : CPowW 10 18 := ⟨by decide, by decide⟩
theorem ten20 : CPowW 10 20 := ⟨by decide, by decide⟩
theorem ty_lst {K : PySem.W.Frag} {H : Hp} {p : Addr} {xs : List V} (e : H p = some (.lst xs)) : tyV K "list" (.ref p) H := .inl ⟨rfl, xs, .inl (.inl e)⟩
theorem seqIx {n : Nat} {d : Int} (h0 : 0 ≤ d) (h1 : d < (n : Int)) : seqIndex? d n = some d.toNat := by
  refine (ixN_seq (i := d) ?_).1
  unfold ixN
  rw [if_pos h0, if_pos h1]
/-- the draws' dict -/
def kvB (g : Addr) (l t bl : Int) : List (Key × V) := [(Sum.inr "great", .ref g), (Sum.inr "left", .int l), (Sum.inr "turn", .int t), (Sum.inr "blend", .int bl)]
structure BG (n : Nat) (H : Hp) (b g : Addr) : Prop where
  ok : ∃ (gs : List Int) (l t bl : Int), H b = some (.dK (kvB g l t bl)) ∧ H g = some (.lst (gs.map V.int)) ∧ gs.length ≤ 63 ∧ (∀ x ∈ gs, 0 ≤ x) ∧ 0 ≤ l ∧ 0 ≤ t ∧ t ≤ n ∧ 0 ≤ bl ∧ bl < 2305843009213693951
theorem BG.same {n : Nat} {H H' : Hp} {b g : Addr} (r : BG n H b g) (k : Same H H') : BG n H' b g := by
  obtain ⟨gs, l, t, bl, e1, e2, rest⟩ := r.ok
  exact ⟨gs, l, t, bl, k _ _ e1, k _ _ e2, rest⟩
theorem BG.mono {n m : Nat} {H : Hp} {b g : Addr} (h : n ≤ m) (r : BG n H b g) : BG m H b g := by
  obtain ⟨gs, l, t, bl, e1, e2, a1, a2, a3, a4, a5, a6⟩ := r.ok
  exact ⟨gs, l, t, bl, e1, e2, a1, a2, a3, a4, by omega, a6⟩
/-- all but the dict and its list stays -/
def Kb (b g : Addr) (H H' : Hp) : Prop := ∀ c o, c ≠ b → c ≠ g → H c = some o → H' c = some o
theorem Kb.trans {b g : Addr} {H H1 H2 : Hp} (x : Kb b g H H1) (y : Kb b g H1 H2) : Kb b g H H2 := fun c o n m e => y c o n m (x c o n m e)
theorem Kb.of {b g : Addr} {H H1 : Hp} (x : Same H H1) : Kb b g H H1 := fun c o _ _ e => x c o e
theorem ne_gl : ¬ (Sum.inr "great" : Key) = (Sum.inr "left" : Key) := by decide +kernel
theorem ne_gt : ¬ (Sum.inr "great" : Key) = (Sum.inr "turn" : Key) := by decide +kernel
theorem ne_gb : ¬ (Sum.inr "great" : Key) = (Sum.inr "blend" : Key) := by decide +kernel
theorem ne_lt : ¬ (Sum.inr "left" : Key) = (Sum.inr "turn" : Key) := by decide +kernel
theorem ne_lb : ¬ (Sum.inr "left" : Key) = (Sum.inr "blend" : Key) := by decide +kernel
theorem ne_tb : ¬ (Sum.inr "turn" : Key) = (Sum.inr "blend" : Key) := by decide +kernel
theorem kv_great {g : Addr} {l t bl : Int} : valV (kvB g l t bl) (.inr "great") = some (.ref g) := valV_pos rfl
theorem kv_left {g : Addr} {l t bl : Int} : valV (kvB g l t bl) (.inr "left") = some (.int l) := (valV_neg ne_gl).trans (valV_pos rfl)
theorem kv_turn {g : Addr} {l t bl : Int} : valV (kvB g l t bl) (.inr "turn") = some (.int t) := (valV_neg ne_gt).trans ((valV_neg ne_lt).trans (valV_pos rfl))
theorem kv_blend {g : Addr} {l t bl : Int} : valV (kvB g l t bl) (.inr "blend") = some (.int bl) := (valV_neg ne_gb).trans ((valV_neg ne_lb).trans ((valV_neg ne_tb).trans (valV_pos rfl)))
theorem g_great {H : Hp} {b g : Addr} {l t bl : Int} (e : H b = some (.dK (kvB g l t bl))) : DGet H b (.str "great") (some (.ref g)) := by
  have z := DGet.k (k := Sum.inr "great") e
  rw [kv_great] at z
  exact z
theorem g_left {H : Hp} {b g : Addr} {l t bl : Int} (e : H b = some (.dK (kvB g l t bl))) : DGet H b (.str "left") (some (.int l)) := by
  have z := DGet.k (k := Sum.inr "left") e
  rw [kv_left] at z
  exact z
theorem g_turn {H : Hp} {b g : Addr} {l t bl : Int} (e : H b = some (.dK (kvB g l t bl))) : DGet H b (.str "turn") (some (.int t)) := by
  have z := DGet.k (k := Sum.inr "turn") e
  rw [kv_turn] at z
  exact z
theorem g_blend {H : Hp} {b g : Addr} {l t bl : Int} (e : H b = some (.dK (kvB g l t bl))) : DGet H b (.str "blend") (some (.int bl)) := by
  have z := DGet.k (k := Sum.inr "blend") e
  rw [kv_blend] at z
  exact z
theorem put_left {g : Addr} {l t bl l2 : Int} : putK (kvB g l t bl) (.inr "left") (.int l2) = kvB g l2 t bl := by
  unfold putK kvB
  rw [if_pos (by simp)]
  simp only [List.map_cons, List.map_nil]
  rw [if_neg ne_gl, if_pos trivial, if_neg (Ne.symm ne_lt), if_neg (Ne.symm ne_lb)]
theorem put_turn {g : Addr} {l t bl t2 : Int} : putK (kvB g l t bl) (.inr "turn") (.int t2) = kvB g l t2 bl := by
  unfold putK kvB
  rw [if_pos (by simp)]
  simp only [List.map_cons, List.map_nil]
  rw [if_neg ne_gt, if_neg ne_lt, if_pos trivial, if_neg (Ne.symm ne_tb)]
theorem p_left {H : Hp} {b g : Addr} {l t bl l2 : Int} (e : H b = some (.dK (kvB g l t bl))) : DPut H b (.str "left") (.int l2) (upd H b (.dK (kvB g l2 t bl))) := by
  have z := DPut.k (k := Sum.inr "left") (v := .int l2) e (by show 4 < sizeLine; decide)
  rw [put_left] at z
  exact z
theorem p_turn {H : Hp} {b g : Addr} {l t bl t2 : Int} (e : H b = some (.dK (kvB g l t bl))) : DPut H b (.str "turn") (.int t2) (upd H b (.dK (kvB g l t2 bl))) := by
  have z := DPut.k (k := Sum.inr "turn") (v := .int t2) e (by show 4 < sizeLine; decide)
  rw [put_turn] at z
  exact z
def sp__law_bag (K : PySem.W.Frag) : Sp := fun vs H Q _ => ∃ (a : Addr) (ns : List Int), vs = [.ref a] ∧ SqL K H a (ns.map V.int) ∧ ns.length ≤ 63 ∧ ∀ b g H', Same H H' → H b = none → H g = none → b ≠ g → BG 0 H' b g → Q (.ref b) H'

def sp__law_draw (_ : PySem.W.Frag) : Sp := fun vs H Q _ => ∃ b g m n, vs = [.ref b, .int m] ∧ BG n H b g ∧ b ≠ g ∧ n ≤ 1000000 ∧ 0 < m ∧ m.natAbs < 2 ^ 200 ∧
  ∀ r H', 0 ≤ r → r < m → Kb b g H H' → BG (n + 1) H' b g → Q (.int r) H'

def EPair (H : Hp) (c t : Addr) (v : V) : Prop := ∃ a1 a2, H t = some (.tup [.ref a1, .ref a2]) ∧ ErrAt H c a1 v ∧ ErrAt H c a2 v
theorem EPair.same {H H' : Hp} {c t : Addr} {v : V} (k : Same H H') (h : EPair H c t v) : EPair H' c t v := by
  obtain ⟨a1, a2, e, x1, x2⟩ := h
  exact ⟨a1, a2, k _ _ e, x1.same k, x2.same k⟩
theorem errAt_kl {H H' : Hp} {c a p : Addr} {v : V} (k : Kl p H H') (h : ErrAt H c a v) : ErrAt H' c a v := by
  obtain ⟨⟨ys, ep⟩, kp⟩ := k
  obtain ⟨d, h1, h2⟩ := h
  exact ⟨d, kp _ _ (ne_of h1 ep (fun z => by have z' : HO.ext _ = HO.lst ys := z; cases z')) h1, kp _ _ (ne_of h2 ep (fun z => by have z' : HO.ext _ = HO.lst ys := z; cases z')) h2⟩
theorem EPair.kl {H H' : Hp} {c t p : Addr} {v : V} (k : Kl p H H') (h : EPair H c t v) : EPair H' c t v := by
  obtain ⟨a1, a2, e, x1, x2⟩ := h
  obtain ⟨ys, ep⟩ := k.1
  exact ⟨a1, a2, k.2 _ _ (ne_of e ep (fun z => by cases z)) e, errAt_kl k x1, errAt_kl k x2⟩
/-- the pairs of the first classes behind the base -/
def MadeTo (cs : List Addr) (H : Hp) (es : List V) (v : V) (k : Nat) : Prop := es.length = k ∧ ∀ (i : Nat) z, es[i]? = some z → ∃ t c, z = .ref t ∧ cs[i + 1]? = some c ∧ EPair H c t v
theorem MadeTo.same {cs : List Addr} {H H' : Hp} {es : List V} {v : V} {k : Nat} (s : Same H H') (h : MadeTo cs H es v k) : MadeTo cs H' es v k :=
  ⟨h.1, fun i z e => by obtain ⟨t, c, ez, ec, p⟩ := h.2 i z e; exact ⟨t, c, ez, ec, p.same s⟩⟩
theorem MadeTo.kl {cs : List Addr} {H H' : Hp} {es : List V} {v : V} {k : Nat} {p : Addr} (s : Kl p H H') (h : MadeTo cs H es v k) : MadeTo cs H' es v k :=
  ⟨h.1, fun i z e => by obtain ⟨t, c, ez, ec, q⟩ := h.2 i z e; exact ⟨t, c, ez, ec, q.kl s⟩⟩
theorem MadeTo.nil {cs : List Addr} {H : Hp} {v : V} : MadeTo cs H [] v 0 := ⟨rfl, fun i z e => by simp at e⟩
theorem MadeTo.snoc {cs : List Addr} {H : Hp} {es : List V} {v : V} {k : Nat} {c t : Addr} (h : MadeTo cs H es v k) (ec : cs[k + 1]? = some c) (p : EPair H c t v) : MadeTo cs H (es ++ [.ref t]) v (k + 1) := by
  refine ⟨by rw [List.length_append, h.1]; rfl, fun i z e => ?_⟩
  by_cases li : i < es.length
  · rw [List.getElem?_append_left li] at e
    exact h.2 i z e
  · have ie : i = k := by
      have := (List.getElem?_eq_some_iff.mp e).1
      rw [List.length_append, h.1] at this
      have l1 : [V.ref t].length = 1 := rfl
      rw [h.1] at li
      omega
    subst ie
    rw [List.getElem?_append_right (by omega), h.1, Nat.sub_self] at e
    have : z = .ref t := (Option.some.inj e).symm
    exact ⟨t, c, this, ec, p⟩
def sp__law_made (_ : PySem.W.Frag) (cs : List Addr) : Sp := fun vs H Q _ => ∃ v, vs = [v] ∧ ∀ p H' es, Same H H' → H' p = some (.lst es) → MadeTo cs H' es v 9 → Q (.ref p) H'

def flagsB (i : Nat) : List Bool := [decide (1 = i), decide (2 = i), decide (3 = i), decide (4 = i), decide (5 = i), decide (6 = i), decide (7 = i), decide (8 = i), decide (9 = i)]
theorem errT_sub {K : PySem.W.Frag} {mg : Str → Option Value} {cs : List Addr} {ns : List Str} {fI : Addr} (x : ErrT K mg cs ns fI) {i j : Nat} {c d : Addr} (hc : cs[i]? = some c) (hd : cs[j]? = some d) (j0 : j ≠ 0) : PySem.W.kitOne K (.ref c) (.ref d) = some (decide (j = i)) := by
  rw [x.sub i j c d hc hd]
  by_cases e : j = i
  · rw [decide_eq_true e, decide_eq_true (.inl e.symm)]
  · rw [decide_eq_false e, decide_eq_false (fun z => z.elim (fun z => e z.symm) j0)]
theorem mem_of {α : Type} {l : List α} {i : Nat} {x : α} (h : l[i]? = some x) : x ∈ l := List.mem_of_getElem? h
def sp__law_flags (_ : PySem.W.Frag) (cs : List Addr) : Sp := fun vs H Q _ => ∃ a c i v, vs = [.ref a] ∧ cs[i]? = some c ∧ ErrAt H c a v ∧ ∀ l H', Same H H' → H l = none → H' l = some (.lst ((flagsB i).map V.bl)) → Q (.ref l) H'

theorem sNeF {x : Str} : V.bl (!decide (V.str x = V.str x)) = V.bl false := by rw [decide_eq_true rfl]; rfl
/-- a value that can be shown -/
def Th (K : PySem.W.Frag) (H : Hp) (v : V) : Prop := ∃ d, Dp K H v d ∧ DOk 30 3 d
theorem Th.same {K : PySem.W.Frag} {H H' : Hp} {v : V} (k : Same H H') (h : Th K H v) : Th K H' v := by
  obtain ⟨d, a, b⟩ := h
  exact ⟨d, dp_same k a, b⟩
theorem dp_bls {K : PySem.W.Frag} {H : Hp} : ∀ bs : List Bool, DpAll K H (bs.map V.bl) (bs.map PyData.bool)
  | [] => .nil
  | b :: bs => .cons (.bl b) (dp_bls bs)
theorem lyA_of : ∀ {k : Nat} {ds : List PyData}, (∀ d ∈ ds, Ly k d) → LyAll k ds
  | k, [], _ => LyAll.nil.mono (Nat.zero_le _)
  | k, d :: ds, h => by
    have z := LyAll.cons (h d (by simp)) (lyA_of (k := k) (ds := ds) fun x m => h x (by simp [m]))
    rw [Nat.max_self] at z
    exact z
theorem ly_bls (bs : List Bool) : Ly 2 (.list (bs.map PyData.bool)) := Ly.list (lyA_of fun d m => by
  obtain ⟨b, _, rfl⟩ := List.mem_map.mp m
  exact Ly.bool b)
def sp_law (K : PySem.W.Frag) : Sp := fun vs H Q _ => ∃ (a : Addr) (ns : List Int), vs = [.ref a] ∧ SqL K H a (ns.map V.int) ∧ ns.length ≤ 63 ∧ ∀ H', Q (.bl true) H'

end Pk56

namespace Pk56
open PySem PySem.Spec PyProof.Rows L2 Gd
section
variable {P : Program} {w : World} {K : PySem.W.Frag} {mg : Str → Option Value} {base : Heap}
set_option maxHeartbeats 8000000 in
-- RangeError.__init__: level 1; builtins []; cells []; slots: 0 self, 1 value
theorem ok_RangeError___init__ {fI : Addr} (h : AtI K fI "RangeError.__init__" s_RangeError___init__ ["self", "value"]) : DnI P w K mg base 1 fI "RangeError.__init__" s_RangeError___init__ ["self", "value"] (spIni K) := by
  refine .mk' h fun f fd F => F.ok sc_RangeError___init__ (fun vs H Q E h => ?_) (fun cdv A outer s H vs Q E hr h => ?_)
  · obtain ⟨a, c, v, rfl, ox, nv, ea, q⟩ := h
    rfl
  · obtain ⟨a, c, v, rfl, ox, nv, ea, q⟩ := h
    refine ⟨_, (pss_one (ps_ost (pv 0) (pv 1) rfl)), ?_⟩
    exact ⟨_, rfl, _, rfl, a, c, rfl, ox, nv, .inl ⟨ea, fun dx n ne => q dx n ne⟩⟩
end

end Pk56
namespace Pk56
open PySem PySem.Spec PyProof.Rows L2 Gd
section
variable {P : Program} {w : World} {K : PySem.W.Frag} {mg : Str → Option Value} {base : Heap}
set_option maxHeartbeats 8000000 in
-- _law_bag: level 1; builtins ['abs', 'int']; cells []; slots: 0 script, 1 blend, 2 great, 3 cell
theorem ok__law_bag (h : At K mg "_law_bag" s__law_bag ["script"]) (m_abs : mg "abs" = none) (m_int : mg "int" = none) : Dn P w K mg base 1 "_law_bag" s__law_bag ["script"] (sp__law_bag K) := by
  refine .mk' h fun f fd F => F.ok sc__law_bag (fun vs H Q E h => ?_) (fun cdv A outer s H vs Q E hr h => ?_)
  · obtain ⟨a, ns, rfl, hS, hn, q⟩ := h
    rfl
  · obtain ⟨a, ns, rfl, hS, hn, q⟩ := h
    refine ⟨_, (pss_cons (ps_par (i := 1) (j := 2) rfl sc__law_bag.nd rfl rfl (by decide) rfl rfl (pa_cons pe_int (pa_cons (pe_lst pa_nil) pa_nil)) (by rfl))
      (pss_cons (ps_for PassesOwn.never rfl (pi_list (pv 0)) (pg_name (i := 3) sc__law_bag.nd rfl (.inl rfl))
        (pss_cons (ps_set (i := 1) sc__law_bag.nd rfl (.inl rfl) (pe_op op_mod (pe_callTy call_int1 (by rfl) m_int (by decide +kernel) (pa_cons (pe_op op_add (pe_op op_mulW (pv 1) pe_int) (pv 3)) pa_nil)) pe_int))
        (pss_one (ps_if (pt_cmpR op_ge (pe_callB call_abs (by rfl) m_abs (by decide +kernel) (pa_cons (pv 3) pa_nil)) (pe_op op_powW pe_int pe_int) (nomark _))
          (pss_one (ps_expr (pe_bm PySem.F.plainAttrs_list PySem.F.slot_list_append PySem.F.type_list_append mt_append (pv 2) (pa_cons (pe_callB call_abs (by rfl) m_abs (by decide +kernel) (pa_cons (pv 3) pa_nil)) pa_nil))))
          pss_nil))))
      (pss_one (ps_ret (pe_disp (pps_cons pe_str (pv 2) (pps_cons pe_str pe_int (pps_cons pe_str pe_int (pps_cons pe_str (pv 1) pps_nil)))) rfl rfl (by decide) (by decide)))))), ?_⟩
    refine ⟨by show 0 ≤ sizeLine; decide, fun g ng => ⟨_, _, rfl, ?_⟩⟩
    have sg : Same H (upd H g (.lst [])) := Same.new ng
    have og : upd H g (.lst []) g = some (.lst (([] : List Int).map V.int)) := upd_same
    generalize upd H g (.lst []) = H0 at sg og
    refine ⟨_, rfl, a, rfl, ⟨_, sg.seq hS⟩, for_list (xs := ns.map V.int) (fun i σ G => ∃ (gs : List Int) (bl : Int) (y3 : Option V), σ = [some (.ref a), some (.int bl), some (.ref g), y3] ∧ Same H G ∧ G g = some (.lst (gs.map V.int)) ∧ gs.length ≤ i ∧ (∀ x ∈ gs, 0 ≤ x) ∧ 0 ≤ bl ∧ bl < 2305843009213693951)
      ⟨[], 11, none, rfl, sg, og, Nat.zero_le _, fun _ z => absurd z (by simp), by decide, by decide⟩ ?_ ?_ ?_⟩
    · rintro i σ G _ ⟨_, _, _, _, sm, _⟩
      exact sm.seq hS
    · rintro i x σ G ex ⟨gs, bl, y3, rfl, sm, oG, lg, pg, b0, b1⟩
      have hx : ∃ z : Int, x = .int z := by
        rw [List.getElem?_map] at ex
        cases e : ns[i]? with
        | none => rw [e] at ex; cases ex
        | some z => rw [e] at ex; exact ⟨z, (Option.some.inj ex).symm⟩
      have li : i < ns.length := by
        have := (List.getElem?_eq_some_iff.mp ex).1
        rw [List.length_map] at this
        exact this
      obtain ⟨z, rfl⟩ := hx
      refine ⟨_, rfl, _, _, rfl, rfl, wide_mul (a := 64) (b := 64) (by omega) (by decide) (by decide) (by decide) (by decide), _, rfl, _, _, rfl, rfl, .inl ⟨_, rfl, _, _, rfl, rfl, (by show (0 : Int) < _; decide), ?_⟩⟩
      have m0 := Int.emod_nonneg (bl * 1000003 + z) (show (2305843009213693951 : Int) ≠ 0 by decide)
      have m1 := Int.emod_lt_of_pos (bl * 1000003 + z) (show (0 : Int) < 2305843009213693951 by decide)
      refine ⟨_, rfl, z, rfl, _, _, rfl, rfl, ten18, _, _, rfl, rfl, _, rfl, ite2 (fun _ => ?_) (fun _ => ⟨gs, _, _, rfl, sm, oG, by omega, pg, m0, m1⟩)⟩
      have ab : (0 : Int) ≤ (if z < 0 then -z else z) := by split <;> omega
      refine ⟨_, rfl, ty_lst oG, _, rfl, z, rfl, ?_⟩
      generalize (if z < 0 then -z else z) = y at ab
      refine ⟨g, _, _, rfl, rfl, oG, ?_, gs ++ [y], _, _, rfl, fun c o e => ?_, ?_, ?_, ?_, m0, m1⟩
      · rw [List.length_map]
        exact Nat.lt_of_le_of_lt (by omega : gs.length ≤ 100) (by decide)
      · rw [upd_ne (ne_of_none e ng)]
        exact sm _ _ e
      · rw [upd_same, List.map_append]
        rfl
      · rw [List.length_append]
        show gs.length + 1 ≤ i + 1
        omega
      · intro w mw
        rcases List.mem_append.mp mw with mw | mw
        · exact pg w mw
        · obtain rfl : w = y := by simpa using mw
          exact ab
    · rintro σ G ⟨gs, bl, y3, rfl, sm, oG, lg, pg, b0, b1⟩
      rw [List.length_map] at lg
      intro b nb
      have oGb : upd G b (.dK []) b = some (.dK []) := upd_same
      refine ⟨_, rfl, _, rfl, oGb, [(Sum.inr "great", .ref g), (Sum.inr "left", .int 0), (Sum.inr "turn", .int 0), (Sum.inr "blend", .int bl)], rfl, by show 4 ≤ 15; decide, ?_⟩
      have em : mergeK [] [((Sum.inr "great" : Key), V.ref g), (Sum.inr "left", .int 0), (Sum.inr "turn", .int 0), (Sum.inr "blend", .int bl)] = kvB g 0 0 bl := rfl
      rw [em]
      have bg : b ≠ g := fun z => by rw [z, oG] at nb; cases nb
      have nb0 : H b = none := by
        cases e : H b with
        | none => rfl
        | some u => rw [sm _ _ e] at nb; cases nb
      refine q b g _ (fun c o e => ?_) nb0 ng bg ⟨gs, 0, 0, bl, upd_same, ?_, by omega, pg, by decide, by decide, by decide, b0, b1⟩
      · have cb : c ≠ b := ne_of_none e nb0
        rw [upd_ne cb, upd_ne cb]
        exact sm _ _ e
      · rw [upd_ne (Ne.symm bg), upd_ne (Ne.symm bg)]
        exact oG
end

end Pk56
namespace Pk56
open PySem PySem.Spec PyProof.Rows L2 Gd
section
variable {P : Program} {w : World} {K : PySem.W.Frag} {mg : Str → Option Value} {base : Heap}
set_option maxHeartbeats 8000000 in
-- _law_draw: level 1; builtins ['int', 'len']; cells []; slots: 0 bag, 1 many, 2 drawn, 3 turn, 4 mixed
theorem ok__law_draw (h : At K mg "_law_draw" s__law_draw ["bag", "many"]) (m_int : mg "int" = none) (m_len : mg "len" = none) : Dn P w K mg base 1 "_law_draw" s__law_draw ["bag", "many"] (sp__law_draw K) := by
  refine .mk' h fun f fd F => F.ok sc__law_draw (fun vs H Q E h => ?_) (fun cdv A outer s H vs Q E hr h => ?_)
  · obtain ⟨b, g, m, n, rfl, rs, bg, hn, m0, m1, q⟩ := h
    rfl
  · obtain ⟨b, g, m, n, rfl, rs, bg, hn, m0, m1, q⟩ := h
    refine ⟨_, (C8.pss_cut (ps_if (PW.pt (pw_and (pt_cmpR op_lt (pe_dget (hu_of hr) (pv 0) pe_str (fun _ _ => rfl)) (pv 1) (nomark _)) (pw_and1 (pt_cmpR op_gt (pe_callB call_len_seq (by rfl) m_len PySem.boot_len (pa_cons (pe_dget (hu_of hr) (pv 0) pe_str (fun _ _ => rfl)) pa_nil)) pe_int (nomark _)))))
        (pss_one (ps_dput (hu_of hr) (pv 0) pe_str (pe_bm PySem.F.plainAttrs_list PySem.F.slot_list_pop PySem.F.type_list_pop mt_popAt (pe_dget (hu_of hr) (pv 0) pe_str (fun _ _ => rfl)) (pa_cons pe_int pa_nil)) rfl))
        pss_nil)
      (pss_cons (ps_if (pt_cmpR op_ge (pe_dget (hu_of hr) (pv 0) pe_str (fun _ _ => rfl)) (pv 1) (nomark _))
        (pss_cons (ps_set (i := 2) sc__law_draw.nd rfl (.inl rfl) (pe_op op_mod (pe_callTy call_int1 (by rfl) m_int (by decide +kernel) (pa_cons (pe_dget (hu_of hr) (pv 0) pe_str (fun _ _ => rfl)) pa_nil)) (pv 1)))
        (pss_cons (ps_dput (hu_of hr) (pv 0) pe_str (pe_op op_fdivW (pe_callTy call_int1 (by rfl) m_int (by decide +kernel) (pa_cons (pe_dget (hu_of hr) (pv 0) pe_str (fun _ _ => rfl)) pa_nil)) (pv 1)) rfl)
        (pss_one (ps_ret (pv 2)))))
        pss_nil)
      (pss_cons (ps_daug (hu_of hr) (pv 0) pe_str pe_int ip_add (fun _ _ _ => rfl))
      (pss_cons (ps_set (i := 3) sc__law_draw.nd rfl (.inl rfl) (pe_dget (hu_of hr) (pv 0) pe_str (fun _ _ => rfl)))
      (pss_cons (ps_set (i := 4) sc__law_draw.nd rfl (.inl rfl) (pe_op op_add (pe_op op_mulW (pe_op op_add (pe_dget (hu_of hr) (pv 0) pe_str (fun _ _ => rfl)) (pe_op op_mulW pe_int (pv 3))) (pe_op op_powW (pe_op op_add (pv 3) pe_int) pe_int)) (pe_op op_mulW pe_int (pv 3))))
      (pss_cons (ps_set (i := 4) sc__law_draw.nd rfl (.inl rfl) (pe_op op_mod (pe_callTy call_int1 (by rfl) m_int (by decide +kernel) (pa_cons (pv 4) pa_nil)) pe_int))
      (pss_one (ps_ret (pe_op op_mod (pe_callTy call_int1 (by rfl) m_int (by decide +kernel) (pa_cons (pe_op op_fdivW (pe_op op_mod (pe_callTy call_int1 (by rfl) m_int (by decide +kernel) (pa_cons (pe_op op_powW (pv 4) pe_int) pa_nil)) (pe_op op_add (pe_op op_powW pe_int pe_int) pe_int)) pe_int) pa_nil)) (pv 1)))))))))), ?_⟩
    refine ⟨fun σ' G => Kb b g H G ∧ BG n G b g ∧ σ' = [some (.ref b), some (.int m), none, none, none], ?_, ?_⟩
    · obtain ⟨gs, l, t, bl, e1, e2, lg, pg, l0, t0, t1, b0, b1⟩ := rs.ok
      have stay : Kb b g H H ∧ BG n H b g ∧ ([some (.ref b), some (.int m), none, none, none] : L2.St) = [some (.ref b), some (.int m), none, none, none] := ⟨fun _ _ _ _ e => e, rs, rfl⟩
      refine ⟨_, rfl, b, _, rfl, g_left e1, _, rfl, _, _, rfl, rfl, _, rfl, ite2 (fun _ => ?_) (fun _ => iteF stay)⟩
      refine ⟨_, rfl, b, _, rfl, g_great e1, g, _, rfl, .inl (.inl (.inl e2)), _, _, rfl, rfl, _, rfl, ite2 (fun z => ?_) (fun _ => stay)⟩
      match gs, e2, lg, pg, z with
      | [], _, _, _, z => exact absurd (of_decide_eq_true z) (by show ¬ ((0 : Nat) : Int) > 0; decide)
      | x :: gs, e2, lg, pg, _ =>
        refine ⟨_, rfl, b, _, rfl, g_great e1, ty_lst e2, g, _, 0, 0, .int x, rfl, rfl, e2, by decide, by decide, seqIx (by decide) (by show (0 : Int) < ((List.map V.int (x :: gs)).length : Int); rw [List.length_map, List.length_cons]; omega), rfl, ?_⟩
        have e3 : upd H g (.lst (((x :: gs).map V.int).eraseIdx 0)) b = some (.dK (kvB g l t bl)) := by rw [upd_ne bg]; exact e1
        refine ⟨_, rfl, b, _, rfl, p_left e3, fun c o n1 n2 e => ?_, ⟨gs, x, t, bl, upd_same, ?_, ?_, fun y my => pg y (List.mem_cons_of_mem _ my), pg x List.mem_cons_self, t0, t1, b0, b1⟩, rfl⟩
        · rw [upd_ne n1, upd_ne n2]
          exact e
        · rw [upd_ne (Ne.symm bg), upd_same]
          rfl
        · rw [List.length_cons] at lg
          omega
    · rintro σ' G ⟨k1, rs1, rfl⟩
      obtain ⟨gs, l, t, bl, e1, e2, lg, pg, l0, t0, t1, b0, b1⟩ := rs1.ok
      refine ⟨_, rfl, b, _, rfl, g_left e1, _, rfl, _, _, rfl, rfl, _, rfl, ite2 (fun _ => ?_) (fun _ => ?_)⟩
      · refine ⟨_, rfl, b, _, rfl, g_left e1, .inl ⟨_, rfl, _, rfl, _, _, rfl, rfl, m0, ?_⟩⟩
        refine ⟨_, rfl, b, _, rfl, g_left e1, .inl ⟨_, rfl, _, rfl, _, _, rfl, rfl, wide_div m0 m1 (by decide) (by decide), ?_⟩⟩
        refine ⟨_, rfl, b, _, rfl, p_left e1, _, rfl, ?_⟩
        refine q _ _ (Int.emod_nonneg _ (by omega)) (Int.emod_lt_of_pos _ m0) (fun c o n1 n2 e => ?_) ⟨gs, _, t, bl, upd_same, ?_, lg, pg, Int.ediv_nonneg l0 (by omega), t0, by omega, b0, b1⟩
        · rw [upd_ne n1]
          exact k1 _ _ n1 n2 e
        · rw [upd_ne (Ne.symm bg)]
          exact e2
      · refine ⟨_, rfl, b, _, rfl, g_turn e1, _, _, rfl, rfl, _, p_turn e1, ?_⟩
        have f1 : upd G b (.dK (kvB g l (t + 1) bl)) b = some (.dK (kvB g l (t + 1) bl)) := upd_same
        have kk : Kb b g H (upd G b (.dK (kvB g l (t + 1) bl))) := fun c o n1 n2 e => by
          rw [upd_ne n1]
          exact k1 _ _ n1 n2 e
        have rs2 : BG (n + 1) (upd G b (.dK (kvB g l (t + 1) bl))) b g := ⟨gs, l, t + 1, bl, f1, by rw [upd_ne (Ne.symm bg)]; exact e2, lg, pg, l0, by omega, by omega, b0, b1⟩
        generalize upd G b (.dK (kvB g l (t + 1) bl)) = G1 at f1 kk rs2
        refine ⟨_, rfl, b, _, rfl, g_turn f1, ?_⟩
        have s29 : (t + 1 + 29) ^ (2 : Int).toNat = (t + 30) * (t + 30) := by
          show (t + 1 + 29) ^ 2 = _
          rw [Int.pow_succ, Int.pow_succ, Int.pow_zero, Int.one_mul]
          rw [show t + 1 + 29 = t + 30 by omega]
        have sq : (t + 30) * (t + 30) ≤ 2000000 * 2000000 := Int.mul_le_mul (by omega) (by omega) (by omega) (by decide)
        have sq0 : 0 ≤ (t + 30) * (t + 30) := Int.mul_nonneg (by omega) (by omega)
        have sqb : ((t + 1 + 29) ^ (2 : Int).toNat).natAbs < 2 ^ 50 := by
          rw [s29]
          have : (2 : Nat) ^ 50 = 1125899906842624 := by decide
          omega
        refine ⟨_, rfl, b, _, rfl, g_blend f1, _, rfl, _, _, rfl, rfl, wide_mul (a := 10) (b := 30) (by decide) (by omega) (by decide) (by decide) (by decide), _, _, rfl, rfl, ?_⟩
        refine ⟨_, rfl, _, _, rfl, rfl, _, _, rfl, rfl, powW_of (a := 30) (by omega) (by decide) (by decide) (by decide), _, _, rfl, rfl, wide_mul (a := 64) (b := 50) (by omega) sqb (by decide) (by decide) (by decide), ?_⟩
        refine ⟨_, rfl, _, _, rfl, rfl, wide_mul (a := 20) (b := 30) (by decide) (by omega) (by decide) (by decide) (by decide), _, _, rfl, rfl, ?_⟩
        refine ⟨_, rfl, .inl ⟨_, rfl, _, _, rfl, rfl, (by show (0 : Int) < _; decide), ?_⟩⟩
        have y0 := Int.emod_nonneg ((bl + 17 * (t + 1)) * (t + 1 + 29) ^ (2 : Int).toNat + 7919 * (t + 1)) (show (2305843009213693951 : Int) ≠ 0 by decide)
        have y1 := Int.emod_lt_of_pos ((bl + 17 * (t + 1)) * (t + 1 + 29) ^ (2 : Int).toNat + 7919 * (t + 1)) (show (0 : Int) < 2305843009213693951 by decide)
        generalize ((bl + 17 * (t + 1)) * (t + 1 + 29) ^ (2 : Int).toNat + 7919 * (t + 1)) % 2305843009213693951 = y at y0 y1
        refine ⟨_, rfl, _, _, rfl, rfl, powW_of (a := 64) (by omega) (by decide) (by decide) (by decide), .inl ⟨_, rfl, _, _, rfl, rfl, ten18, _, _, rfl, rfl, _, _, rfl, rfl, (by show (0 : Int) < _; decide), ?_⟩⟩
        refine ⟨_, _, rfl, rfl, wide_div (b := 30) (by decide) (by decide) (by decide) (by decide), .inl ⟨_, rfl, _, rfl, _, _, rfl, rfl, m0, ?_⟩⟩
        exact q _ _ (Int.emod_nonneg _ (by omega)) (Int.emod_lt_of_pos _ m0) kk rs2
end

end Pk56
namespace Pk56
open PySem PySem.Spec PyProof.Rows L2 Gd
section
variable {P : Program} {w : World} {K : PySem.W.Frag} {mg : Str → Option Value} {base : Heap}
set_option maxHeartbeats 8000000 in
-- _law_made: level 3; builtins []; cells []; slots: 0 thing, 1 found
theorem ok__law_made {c0 c1 c2 c3 c4 c5 c6 c7 c8 c9 fI : Addr} (X : ErrT K mg [c0, c1, c2, c3, c4, c5, c6, c7, c8, c9] ["RangeError", "InvalidRange", "InvalidName", "InvalidSystem", "InvalidRule", "UnknownName", "InvalidNumber", "InvalidMove", "NothingToUndo", "Unreadable"] fI) (h : At K mg "_law_made" s__law_made ["thing"]) (D_RangeError___init__ : DnI P w K mg base 1 fI "RangeError.__init__" s_RangeError___init__ ["self", "value"] (spIni K)) (kI_value : ∀ fd, Fun K "__init__" "RangeError.__init__" s_RangeError___init__ fI fd → ∀ (s : Shared) (a u : Value), BindsTo s fd ⟨[a], [("value", u)]⟩ ((["self", "value"] : List Str).zip [a, u])) : Dn P w K mg base 3 "_law_made" s__law_made ["thing"] (sp__law_made K [c0, c1, c2, c3, c4, c5, c6, c7, c8, c9]) := by
  refine .mk' h fun f fd F => F.ok sc__law_made (fun vs H Q E h => ?_) (fun cdv A outer s H vs Q E hr h => ?_)
  · obtain ⟨v, rfl, q⟩ := h
    rfl
  · obtain ⟨v, rfl, q⟩ := h
    refine ⟨_, (pss_cons (ps_set (i := 1) sc__law_made.nd rfl (.inl rfl) (pe_lst (pa_cons (pe_tup (pa_cons (pe_mkE (X.t 1 _ _ rfl rfl) D_RangeError___init__ hr (by rfl) (pa_cons (pv 0) pa_nil)) (pa_cons (pe_mkEk (X.t 1 _ _ rfl rfl) D_RangeError___init__ hr kI_value (by rfl) (pk_cons (pv 0) pk_nil)) pa_nil))) (pa_cons (pe_tup (pa_cons (pe_mkE (X.t 2 _ _ rfl rfl) D_RangeError___init__ hr (by rfl) (pa_cons (pv 0) pa_nil)) (pa_cons (pe_mkEk (X.t 2 _ _ rfl rfl) D_RangeError___init__ hr kI_value (by rfl) (pk_cons (pv 0) pk_nil)) pa_nil))) pa_nil))))
      (pss_cons (ps_expr (pe_bm PySem.F.plainAttrs_list PySem.F.slot_list_append PySem.F.type_list_append mt_append (pv 1) (pa_cons (pe_tup (pa_cons (pe_mkE (X.t 3 _ _ rfl rfl) D_RangeError___init__ hr (by rfl) (pa_cons (pv 0) pa_nil)) (pa_cons (pe_mkEk (X.t 3 _ _ rfl rfl) D_RangeError___init__ hr kI_value (by rfl) (pk_cons (pv 0) pk_nil)) pa_nil))) pa_nil)))
      (pss_cons (ps_expr (pe_bm PySem.F.plainAttrs_list PySem.F.slot_list_append PySem.F.type_list_append mt_append (pv 1) (pa_cons (pe_tup (pa_cons (pe_mkE (X.t 4 _ _ rfl rfl) D_RangeError___init__ hr (by rfl) (pa_cons (pv 0) pa_nil)) (pa_cons (pe_mkEk (X.t 4 _ _ rfl rfl) D_RangeError___init__ hr kI_value (by rfl) (pk_cons (pv 0) pk_nil)) pa_nil))) pa_nil)))
      (pss_cons (ps_expr (pe_bm PySem.F.plainAttrs_list PySem.F.slot_list_append PySem.F.type_list_append mt_append (pv 1) (pa_cons (pe_tup (pa_cons (pe_mkE (X.t 5 _ _ rfl rfl) D_RangeError___init__ hr (by rfl) (pa_cons (pv 0) pa_nil)) (pa_cons (pe_mkEk (X.t 5 _ _ rfl rfl) D_RangeError___init__ hr kI_value (by rfl) (pk_cons (pv 0) pk_nil)) pa_nil))) pa_nil)))
      (pss_cons (ps_expr (pe_bm PySem.F.plainAttrs_list PySem.F.slot_list_append PySem.F.type_list_append mt_append (pv 1) (pa_cons (pe_tup (pa_cons (pe_mkE (X.t 6 _ _ rfl rfl) D_RangeError___init__ hr (by rfl) (pa_cons (pv 0) pa_nil)) (pa_cons (pe_mkEk (X.t 6 _ _ rfl rfl) D_RangeError___init__ hr kI_value (by rfl) (pk_cons (pv 0) pk_nil)) pa_nil))) pa_nil)))
      (pss_cons (ps_expr (pe_bm PySem.F.plainAttrs_list PySem.F.slot_list_append PySem.F.type_list_append mt_append (pv 1) (pa_cons (pe_tup (pa_cons (pe_mkE (X.t 7 _ _ rfl rfl) D_RangeError___init__ hr (by rfl) (pa_cons (pv 0) pa_nil)) (pa_cons (pe_mkEk (X.t 7 _ _ rfl rfl) D_RangeError___init__ hr kI_value (by rfl) (pk_cons (pv 0) pk_nil)) pa_nil))) pa_nil)))
      (pss_cons (ps_expr (pe_bm PySem.F.plainAttrs_list PySem.F.slot_list_append PySem.F.type_list_append mt_append (pv 1) (pa_cons (pe_tup (pa_cons (pe_mkE (X.t 8 _ _ rfl rfl) D_RangeError___init__ hr (by rfl) (pa_cons (pv 0) pa_nil)) (pa_cons (pe_mkEk (X.t 8 _ _ rfl rfl) D_RangeError___init__ hr kI_value (by rfl) (pk_cons (pv 0) pk_nil)) pa_nil))) pa_nil)))
      (pss_cons (ps_expr (pe_bm PySem.F.plainAttrs_list PySem.F.slot_list_append PySem.F.type_list_append mt_append (pv 1) (pa_cons (pe_tup (pa_cons (pe_mkE (X.t 9 _ _ rfl rfl) D_RangeError___init__ hr (by rfl) (pa_cons (pv 0) pa_nil)) (pa_cons (pe_mkEk (X.t 9 _ _ rfl rfl) D_RangeError___init__ hr kI_value (by rfl) (pk_cons (pv 0) pk_nil)) pa_nil))) pa_nil)))
      (pss_one (ps_ret (pv 1))))))))))), ?_⟩
    refine ⟨_, rfl, by show 1 ≤ 1000; decide, mk_err (X.t 1 _ _ rfl rfl).ox (X.t 1 _ _ rfl rfl).nV (fun a1 Ga1 sa1 na1 ea1 => ?_)⟩
    refine ⟨_, rfl, rfl, mk_err (X.t 1 _ _ rfl rfl).ox (X.t 1 _ _ rfl rfl).nV (fun b1 Gb1 sb1 nb1 eb1 => ?_)⟩
    refine ⟨by show 2 ≤ sizeLine; decide, fun t1 nt1 => ?_⟩
    have st1 := Same.new (o := .tup [.ref a1, .ref b1]) nt1
    have ot1 : upd Gb1 t1 (.tup [.ref a1, .ref b1]) t1 = some (.tup [.ref a1, .ref b1]) := upd_same
    generalize upd Gb1 t1 (.tup [V.ref a1, .ref b1]) = Gc1 at st1 ot1
    have pr1 : EPair Gc1 c1 t1 v := ⟨a1, b1, ot1, ea1.same (sb1.trans st1), eb1.same st1⟩
    have sm1 := (sa1.trans sb1).trans st1
    refine ⟨_, rfl, by show 1 ≤ 1000; decide, mk_err (X.t 2 _ _ rfl rfl).ox (X.t 2 _ _ rfl rfl).nV (fun a2 Ga2 sa2 na2 ea2 => ?_)⟩
    refine ⟨_, rfl, rfl, mk_err (X.t 2 _ _ rfl rfl).ox (X.t 2 _ _ rfl rfl).nV (fun b2 Gb2 sb2 nb2 eb2 => ?_)⟩
    refine ⟨by show 2 ≤ sizeLine; decide, fun t2 nt2 => ?_⟩
    have st2 := Same.new (o := .tup [.ref a2, .ref b2]) nt2
    have ot2 : upd Gb2 t2 (.tup [.ref a2, .ref b2]) t2 = some (.tup [.ref a2, .ref b2]) := upd_same
    generalize upd Gb2 t2 (.tup [V.ref a2, .ref b2]) = Gc2 at st2 ot2
    have pr2 : EPair Gc2 c2 t2 v := ⟨a2, b2, ot2, ea2.same (sb2.trans st2), eb2.same st2⟩
    have sm2 := (sa2.trans sb2).trans st2
    refine ⟨by show 2 ≤ sizeLine; decide, fun p np => ?_⟩
    have sp_ := Same.new (o := .lst [.ref t1, .ref t2]) np
    have op2 : upd Gc2 p (.lst [.ref t1, .ref t2]) p = some (.lst [.ref t1, .ref t2]) := upd_same
    generalize upd Gc2 p (.lst [V.ref t1, .ref t2]) = L2_ at sp_ op2
    have m2 : MadeTo [c0, c1, c2, c3, c4, c5, c6, c7, c8, c9] L2_ [.ref t1, .ref t2] v 2 := (MadeTo.nil.snoc rfl (pr1.same (sm2.trans sp_))).snoc rfl (pr2.same sp_)
    have np0 : H p = none := by
      cases e : H p with
      | none => rfl
      | some u => rw [sm2 _ _ (sm1 _ _ e)] at np; cases np
    have ov2 : Same H L2_ := (sm1.trans sm2).trans sp_
    refine ⟨_, rfl, ty_lst op2, ?_⟩
    refine ⟨_, rfl, by show 1 ≤ 1000; decide, mk_err (X.t 3 _ _ rfl rfl).ox (X.t 3 _ _ rfl rfl).nV (fun a3 Ga3 sa3 na3 ea3 => ?_)⟩
    refine ⟨_, rfl, rfl, mk_err (X.t 3 _ _ rfl rfl).ox (X.t 3 _ _ rfl rfl).nV (fun b3 Gb3 sb3 nb3 eb3 => ?_)⟩
    refine ⟨by show 2 ≤ sizeLine; decide, fun t3 nt3 => ?_⟩
    have st3 := Same.new (o := .tup [.ref a3, .ref b3]) nt3
    have ot3 : upd Gb3 t3 (.tup [.ref a3, .ref b3]) t3 = some (.tup [.ref a3, .ref b3]) := upd_same
    generalize upd Gb3 t3 (.tup [V.ref a3, .ref b3]) = Gc3 at st3 ot3
    have pr3 : EPair Gc3 c3 t3 v := ⟨a3, b3, ot3, ea3.same (sb3.trans st3), eb3.same st3⟩
    have sm3 := (sa3.trans sb3).trans st3
    have oq3 := sm3 _ _ op2
    have kl3 : Kl p Gc3 (upd Gc3 p (.lst ([V.ref t1, .ref t2] ++ [.ref t3]))) := ⟨⟨_, oq3⟩, Kp.at⟩
    refine ⟨p, _, _, rfl, rfl, oq3, by show 2 < sizeLine; decide, ?_⟩
    have op3 : upd Gc3 p (.lst ([V.ref t1, .ref t2] ++ [.ref t3])) p = some (.lst ([V.ref t1, .ref t2] ++ [.ref t3])) := upd_same
    have m3 := ((m2.same sm3).kl kl3).snoc (k := 2) (c := c3) rfl (pr3.kl kl3)
    have ov3 : Same H (upd Gc3 p (.lst ([V.ref t1, .ref t2] ++ [.ref t3]))) := fun c o e => by
      rw [upd_ne (ne_of_none e np0)]
      exact sm3 _ _ (ov2 _ _ e)
    generalize upd Gc3 p (.lst ([V.ref t1, .ref t2] ++ [V.ref t3])) = L3_ at op3 m3 ov3
    refine ⟨_, rfl, ty_lst op3, ?_⟩
    refine ⟨_, rfl, by show 1 ≤ 1000; decide, mk_err (X.t 4 _ _ rfl rfl).ox (X.t 4 _ _ rfl rfl).nV (fun a4 Ga4 sa4 na4 ea4 => ?_)⟩
    refine ⟨_, rfl, rfl, mk_err (X.t 4 _ _ rfl rfl).ox (X.t 4 _ _ rfl rfl).nV (fun b4 Gb4 sb4 nb4 eb4 => ?_)⟩
    refine ⟨by show 2 ≤ sizeLine; decide, fun t4 nt4 => ?_⟩
    have st4 := Same.new (o := .tup [.ref a4, .ref b4]) nt4
    have ot4 : upd Gb4 t4 (.tup [.ref a4, .ref b4]) t4 = some (.tup [.ref a4, .ref b4]) := upd_same
    generalize upd Gb4 t4 (.tup [V.ref a4, .ref b4]) = Gc4 at st4 ot4
    have pr4 : EPair Gc4 c4 t4 v := ⟨a4, b4, ot4, ea4.same (sb4.trans st4), eb4.same st4⟩
    have sm4 := (sa4.trans sb4).trans st4
    have oq4 := sm4 _ _ op3
    have kl4 : Kl p Gc4 (upd Gc4 p (.lst (([V.ref t1, .ref t2] ++ [V.ref t3]) ++ [.ref t4]))) := ⟨⟨_, oq4⟩, Kp.at⟩
    refine ⟨p, _, _, rfl, rfl, oq4, by show 3 < sizeLine; decide, ?_⟩
    have op4 : upd Gc4 p (.lst (([V.ref t1, .ref t2] ++ [V.ref t3]) ++ [.ref t4])) p = some (.lst (([V.ref t1, .ref t2] ++ [V.ref t3]) ++ [.ref t4])) := upd_same
    have m4 := ((m3.same sm4).kl kl4).snoc (k := 3) (c := c4) rfl (pr4.kl kl4)
    have ov4 : Same H (upd Gc4 p (.lst (([V.ref t1, .ref t2] ++ [V.ref t3]) ++ [.ref t4]))) := fun c o e => by
      rw [upd_ne (ne_of_none e np0)]
      exact sm4 _ _ (ov3 _ _ e)
    generalize upd Gc4 p (.lst (([V.ref t1, .ref t2] ++ [V.ref t3]) ++ [V.ref t4])) = L4_ at op4 m4 ov4
    refine ⟨_, rfl, ty_lst op4, ?_⟩
    refine ⟨_, rfl, by show 1 ≤ 1000; decide, mk_err (X.t 5 _ _ rfl rfl).ox (X.t 5 _ _ rfl rfl).nV (fun a5 Ga5 sa5 na5 ea5 => ?_)⟩
    refine ⟨_, rfl, rfl, mk_err (X.t 5 _ _ rfl rfl).ox (X.t 5 _ _ rfl rfl).nV (fun b5 Gb5 sb5 nb5 eb5 => ?_)⟩
    refine ⟨by show 2 ≤ sizeLine; decide, fun t5 nt5 => ?_⟩
    have st5 := Same.new (o := .tup [.ref a5, .ref b5]) nt5
    have ot5 : upd Gb5 t5 (.tup [.ref a5, .ref b5]) t5 = some (.tup [.ref a5, .ref b5]) := upd_same
    generalize upd Gb5 t5 (.tup [V.ref a5, .ref b5]) = Gc5 at st5 ot5
    have pr5 : EPair Gc5 c5 t5 v := ⟨a5, b5, ot5, ea5.same (sb5.trans st5), eb5.same st5⟩
    have sm5 := (sa5.trans sb5).trans st5
    have oq5 := sm5 _ _ op4
    have kl5 : Kl p Gc5 (upd Gc5 p (.lst ((([V.ref t1, .ref t2] ++ [V.ref t3]) ++ [V.ref t4]) ++ [.ref t5]))) := ⟨⟨_, oq5⟩, Kp.at⟩
    refine ⟨p, _, _, rfl, rfl, oq5, by show 4 < sizeLine; decide, ?_⟩
    have op5 : upd Gc5 p (.lst ((([V.ref t1, .ref t2] ++ [V.ref t3]) ++ [V.ref t4]) ++ [.ref t5])) p = some (.lst ((([V.ref t1, .ref t2] ++ [V.ref t3]) ++ [V.ref t4]) ++ [.ref t5])) := upd_same
    have m5 := ((m4.same sm5).kl kl5).snoc (k := 4) (c := c5) rfl (pr5.kl kl5)
    have ov5 : Same H (upd Gc5 p (.lst ((([V.ref t1, .ref t2] ++ [V.ref t3]) ++ [V.ref t4]) ++ [.ref t5]))) := fun c o e => by
      rw [upd_ne (ne_of_none e np0)]
      exact sm5 _ _ (ov4 _ _ e)
    generalize upd Gc5 p (.lst ((([V.ref t1, .ref t2] ++ [V.ref t3]) ++ [V.ref t4]) ++ [V.ref t5])) = L5_ at op5 m5 ov5
    refine ⟨_, rfl, ty_lst op5, ?_⟩
    refine ⟨_, rfl, by show 1 ≤ 1000; decide, mk_err (X.t 6 _ _ rfl rfl).ox (X.t 6 _ _ rfl rfl).nV (fun a6 Ga6 sa6 na6 ea6 => ?_)⟩
    refine ⟨_, rfl, rfl, mk_err (X.t 6 _ _ rfl rfl).ox (X.t 6 _ _ rfl rfl).nV (fun b6 Gb6 sb6 nb6 eb6 => ?_)⟩
    refine ⟨by show 2 ≤ sizeLine; decide, fun t6 nt6 => ?_⟩
    have st6 := Same.new (o := .tup [.ref a6, .ref b6]) nt6
    have ot6 : upd Gb6 t6 (.tup [.ref a6, .ref b6]) t6 = some (.tup [.ref a6, .ref b6]) := upd_same
    generalize upd Gb6 t6 (.tup [V.ref a6, .ref b6]) = Gc6 at st6 ot6
    have pr6 : EPair Gc6 c6 t6 v := ⟨a6, b6, ot6, ea6.same (sb6.trans st6), eb6.same st6⟩
    have sm6 := (sa6.trans sb6).trans st6
    have oq6 := sm6 _ _ op5
    have kl6 : Kl p Gc6 (upd Gc6 p (.lst (((([V.ref t1, .ref t2] ++ [V.ref t3]) ++ [V.ref t4]) ++ [V.ref t5]) ++ [.ref t6]))) := ⟨⟨_, oq6⟩, Kp.at⟩
    refine ⟨p, _, _, rfl, rfl, oq6, by show 5 < sizeLine; decide, ?_⟩
    have op6 : upd Gc6 p (.lst (((([V.ref t1, .ref t2] ++ [V.ref t3]) ++ [V.ref t4]) ++ [V.ref t5]) ++ [.ref t6])) p = some (.lst (((([V.ref t1, .ref t2] ++ [V.ref t3]) ++ [V.ref t4]) ++ [V.ref t5]) ++ [.ref t6])) := upd_same
    have m6 := ((m5.same sm6).kl kl6).snoc (k := 5) (c := c6) rfl (pr6.kl kl6)
    have ov6 : Same H (upd Gc6 p (.lst (((([V.ref t1, .ref t2] ++ [V.ref t3]) ++ [V.ref t4]) ++ [V.ref t5]) ++ [.ref t6]))) := fun c o e => by
      rw [upd_ne (ne_of_none e np0)]
      exact sm6 _ _ (ov5 _ _ e)
    generalize upd Gc6 p (.lst (((([V.ref t1, .ref t2] ++ [V.ref t3]) ++ [V.ref t4]) ++ [V.ref t5]) ++ [V.ref t6])) = L6_ at op6 m6 ov6
    refine ⟨_, rfl, ty_lst op6, ?_⟩
    refine ⟨_, rfl, by show 1 ≤ 1000; decide, mk_err (X.t 7 _ _ rfl rfl).ox (X.t 7 _ _ rfl rfl).nV (fun a7 Ga7 sa7 na7 ea7 => ?_)⟩
    refine ⟨_, rfl, rfl, mk_err (X.t 7 _ _ rfl rfl).ox (X.t 7 _ _ rfl rfl).nV (fun b7 Gb7 sb7 nb7 eb7 => ?_)⟩
    refine ⟨by show 2 ≤ sizeLine; decide, fun t7 nt7 => ?_⟩
    have st7 := Same.new (o := .tup [.ref a7, .ref b7]) nt7
    have ot7 : upd Gb7 t7 (.tup [.ref a7, .ref b7]) t7 = some (.tup [.ref a7, .ref b7]) := upd_same
    generalize upd Gb7 t7 (.tup [V.ref a7, .ref b7]) = Gc7 at st7 ot7
    have pr7 : EPair Gc7 c7 t7 v := ⟨a7, b7, ot7, ea7.same (sb7.trans st7), eb7.same st7⟩
    have sm7 := (sa7.trans sb7).trans st7
    have oq7 := sm7 _ _ op6
    have kl7 : Kl p Gc7 (upd Gc7 p (.lst ((((([V.ref t1, .ref t2] ++ [V.ref t3]) ++ [V.ref t4]) ++ [V.ref t5]) ++ [V.ref t6]) ++ [.ref t7]))) := ⟨⟨_, oq7⟩, Kp.at⟩
    refine ⟨p, _, _, rfl, rfl, oq7, by show 6 < sizeLine; decide, ?_⟩
    have op7 : upd Gc7 p (.lst ((((([V.ref t1, .ref t2] ++ [V.ref t3]) ++ [V.ref t4]) ++ [V.ref t5]) ++ [V.ref t6]) ++ [.ref t7])) p = some (.lst ((((([V.ref t1, .ref t2] ++ [V.ref t3]) ++ [V.ref t4]) ++ [V.ref t5]) ++ [V.ref t6]) ++ [.ref t7])) := upd_same
    have m7 := ((m6.same sm7).kl kl7).snoc (k := 6) (c := c7) rfl (pr7.kl kl7)
    have ov7 : Same H (upd Gc7 p (.lst ((((([V.ref t1, .ref t2] ++ [V.ref t3]) ++ [V.ref t4]) ++ [V.ref t5]) ++ [V.ref t6]) ++ [.ref t7]))) := fun c o e => by
      rw [upd_ne (ne_of_none e np0)]
      exact sm7 _ _ (ov6 _ _ e)
    generalize upd Gc7 p (.lst ((((([V.ref t1, .ref t2] ++ [V.ref t3]) ++ [V.ref t4]) ++ [V.ref t5]) ++ [V.ref t6]) ++ [V.ref t7])) = L7_ at op7 m7 ov7
    refine ⟨_, rfl, ty_lst op7, ?_⟩
    refine ⟨_, rfl, by show 1 ≤ 1000; decide, mk_err (X.t 8 _ _ rfl rfl).ox (X.t 8 _ _ rfl rfl).nV (fun a8 Ga8 sa8 na8 ea8 => ?_)⟩
    refine ⟨_, rfl, rfl, mk_err (X.t 8 _ _ rfl rfl).ox (X.t 8 _ _ rfl rfl).nV (fun b8 Gb8 sb8 nb8 eb8 => ?_)⟩
    refine ⟨by show 2 ≤ sizeLine; decide, fun t8 nt8 => ?_⟩
    have st8 := Same.new (o := .tup [.ref a8, .ref b8]) nt8
    have ot8 : upd Gb8 t8 (.tup [.ref a8, .ref b8]) t8 = some (.tup [.ref a8, .ref b8]) := upd_same
    generalize upd Gb8 t8 (.tup [V.ref a8, .ref b8]) = Gc8 at st8 ot8
    have pr8 : EPair Gc8 c8 t8 v := ⟨a8, b8, ot8, ea8.same (sb8.trans st8), eb8.same st8⟩
    have sm8 := (sa8.trans sb8).trans st8
    have oq8 := sm8 _ _ op7
    have kl8 : Kl p Gc8 (upd Gc8 p (.lst (((((([V.ref t1, .ref t2] ++ [V.ref t3]) ++ [V.ref t4]) ++ [V.ref t5]) ++ [V.ref t6]) ++ [V.ref t7]) ++ [.ref t8]))) := ⟨⟨_, oq8⟩, Kp.at⟩
    refine ⟨p, _, _, rfl, rfl, oq8, by show 7 < sizeLine; decide, ?_⟩
    have op8 : upd Gc8 p (.lst (((((([V.ref t1, .ref t2] ++ [V.ref t3]) ++ [V.ref t4]) ++ [V.ref t5]) ++ [V.ref t6]) ++ [V.ref t7]) ++ [.ref t8])) p = some (.lst (((((([V.ref t1, .ref t2] ++ [V.ref t3]) ++ [V.ref t4]) ++ [V.ref t5]) ++ [V.ref t6]) ++ [V.ref t7]) ++ [.ref t8])) := upd_same
    have m8 := ((m7.same sm8).kl kl8).snoc (k := 7) (c := c8) rfl (pr8.kl kl8)
    have ov8 : Same H (upd Gc8 p (.lst (((((([V.ref t1, .ref t2] ++ [V.ref t3]) ++ [V.ref t4]) ++ [V.ref t5]) ++ [V.ref t6]) ++ [V.ref t7]) ++ [.ref t8]))) := fun c o e => by
      rw [upd_ne (ne_of_none e np0)]
      exact sm8 _ _ (ov7 _ _ e)
    generalize upd Gc8 p (.lst (((((([V.ref t1, .ref t2] ++ [V.ref t3]) ++ [V.ref t4]) ++ [V.ref t5]) ++ [V.ref t6]) ++ [V.ref t7]) ++ [V.ref t8])) = L8_ at op8 m8 ov8
    refine ⟨_, rfl, ty_lst op8, ?_⟩
    refine ⟨_, rfl, by show 1 ≤ 1000; decide, mk_err (X.t 9 _ _ rfl rfl).ox (X.t 9 _ _ rfl rfl).nV (fun a9 Ga9 sa9 na9 ea9 => ?_)⟩
    refine ⟨_, rfl, rfl, mk_err (X.t 9 _ _ rfl rfl).ox (X.t 9 _ _ rfl rfl).nV (fun b9 Gb9 sb9 nb9 eb9 => ?_)⟩
    refine ⟨by show 2 ≤ sizeLine; decide, fun t9 nt9 => ?_⟩
    have st9 := Same.new (o := .tup [.ref a9, .ref b9]) nt9
    have ot9 : upd Gb9 t9 (.tup [.ref a9, .ref b9]) t9 = some (.tup [.ref a9, .ref b9]) := upd_same
    generalize upd Gb9 t9 (.tup [V.ref a9, .ref b9]) = Gc9 at st9 ot9
    have pr9 : EPair Gc9 c9 t9 v := ⟨a9, b9, ot9, ea9.same (sb9.trans st9), eb9.same st9⟩
    have sm9 := (sa9.trans sb9).trans st9
    have oq9 := sm9 _ _ op8
    have kl9 : Kl p Gc9 (upd Gc9 p (.lst ((((((([V.ref t1, .ref t2] ++ [V.ref t3]) ++ [V.ref t4]) ++ [V.ref t5]) ++ [V.ref t6]) ++ [V.ref t7]) ++ [V.ref t8]) ++ [.ref t9]))) := ⟨⟨_, oq9⟩, Kp.at⟩
    refine ⟨p, _, _, rfl, rfl, oq9, by show 8 < sizeLine; decide, ?_⟩
    have op9 : upd Gc9 p (.lst ((((((([V.ref t1, .ref t2] ++ [V.ref t3]) ++ [V.ref t4]) ++ [V.ref t5]) ++ [V.ref t6]) ++ [V.ref t7]) ++ [V.ref t8]) ++ [.ref t9])) p = some (.lst ((((((([V.ref t1, .ref t2] ++ [V.ref t3]) ++ [V.ref t4]) ++ [V.ref t5]) ++ [V.ref t6]) ++ [V.ref t7]) ++ [V.ref t8]) ++ [.ref t9])) := upd_same
    have m9 := ((m8.same sm9).kl kl9).snoc (k := 8) (c := c9) rfl (pr9.kl kl9)
    have ov9 : Same H (upd Gc9 p (.lst ((((((([V.ref t1, .ref t2] ++ [V.ref t3]) ++ [V.ref t4]) ++ [V.ref t5]) ++ [V.ref t6]) ++ [V.ref t7]) ++ [V.ref t8]) ++ [.ref t9]))) := fun c o e => by
      rw [upd_ne (ne_of_none e np0)]
      exact sm9 _ _ (ov8 _ _ e)
    generalize upd Gc9 p (.lst ((((((([V.ref t1, .ref t2] ++ [V.ref t3]) ++ [V.ref t4]) ++ [V.ref t5]) ++ [V.ref t6]) ++ [V.ref t7]) ++ [V.ref t8]) ++ [V.ref t9])) = L9_ at op9 m9 ov9
    exact ⟨_, rfl, q p _ _ ov9 op9 m9⟩
end

end Pk56
namespace Pk56
open PySem PySem.Spec PyProof.Rows L2 Gd
section
variable {P : Program} {w : World} {K : PySem.W.Frag} {mg : Str → Option Value} {base : Heap}
set_option maxHeartbeats 8000000 in
-- _law_flags: level 1; builtins ['isinstance']; cells []; slots: 0 e, 1 flags
theorem ok__law_flags {c0 c1 c2 c3 c4 c5 c6 c7 c8 c9 fI : Addr} (X : ErrT K mg [c0, c1, c2, c3, c4, c5, c6, c7, c8, c9] ["RangeError", "InvalidRange", "InvalidName", "InvalidSystem", "InvalidRule", "UnknownName", "InvalidNumber", "InvalidMove", "NothingToUndo", "Unreadable"] fI) (h : At K mg "_law_flags" s__law_flags ["e"]) (m_isinstance : mg "isinstance" = none) : Dn P w K mg base 1 "_law_flags" s__law_flags ["e"] (sp__law_flags K [c0, c1, c2, c3, c4, c5, c6, c7, c8, c9]) := by
  refine .mk' h fun f fd F => F.ok sc__law_flags (fun vs H Q E h => ?_) (fun cdv A outer s H vs Q E hr h => ?_)
  · obtain ⟨a, c, i, v, rfl, hc, ea, q⟩ := h
    rfl
  · obtain ⟨a, c, i, v, rfl, hc, ea, q⟩ := h
    refine ⟨_, (pss_cons (ps_set (i := 1) sc__law_flags.nd rfl (.inl rfl) (pe_lst (pa_cons (pe_callB (call_isX X.all) (by rfl) m_isinstance (by decide +kernel) (pa_cons (pv 0) (pa_cons (pe_glob (v := .ref c1) rfl (X.t 1 _ _ rfl rfl).mg_ rfl) pa_nil))) (pa_cons (pe_callB (call_isX X.all) (by rfl) m_isinstance (by decide +kernel) (pa_cons (pv 0) (pa_cons (pe_glob (v := .ref c2) rfl (X.t 2 _ _ rfl rfl).mg_ rfl) pa_nil))) (pa_cons (pe_callB (call_isX X.all) (by rfl) m_isinstance (by decide +kernel) (pa_cons (pv 0) (pa_cons (pe_glob (v := .ref c3) rfl (X.t 3 _ _ rfl rfl).mg_ rfl) pa_nil))) pa_nil)))))
      (pss_cons (ps_expr (pe_bm PySem.F.plainAttrs_list PySem.F.slot_list_extend PySem.F.type_list_extend mt_extend (pv 1) (pa_cons (pe_lst (pa_cons (pe_callB (call_isX X.all) (by rfl) m_isinstance (by decide +kernel) (pa_cons (pv 0) (pa_cons (pe_glob (v := .ref c4) rfl (X.t 4 _ _ rfl rfl).mg_ rfl) pa_nil))) (pa_cons (pe_callB (call_isX X.all) (by rfl) m_isinstance (by decide +kernel) (pa_cons (pv 0) (pa_cons (pe_glob (v := .ref c5) rfl (X.t 5 _ _ rfl rfl).mg_ rfl) pa_nil))) (pa_cons (pe_callB (call_isX X.all) (by rfl) m_isinstance (by decide +kernel) (pa_cons (pv 0) (pa_cons (pe_glob (v := .ref c6) rfl (X.t 6 _ _ rfl rfl).mg_ rfl) pa_nil))) pa_nil)))) pa_nil)))
      (pss_cons (ps_expr (pe_bm PySem.F.plainAttrs_list PySem.F.slot_list_extend PySem.F.type_list_extend mt_extend (pv 1) (pa_cons (pe_lst (pa_cons (pe_callB (call_isX X.all) (by rfl) m_isinstance (by decide +kernel) (pa_cons (pv 0) (pa_cons (pe_glob (v := .ref c7) rfl (X.t 7 _ _ rfl rfl).mg_ rfl) pa_nil))) (pa_cons (pe_callB (call_isX X.all) (by rfl) m_isinstance (by decide +kernel) (pa_cons (pv 0) (pa_cons (pe_glob (v := .ref c8) rfl (X.t 8 _ _ rfl rfl).mg_ rfl) pa_nil))) (pa_cons (pe_callB (call_isX X.all) (by rfl) m_isinstance (by decide +kernel) (pa_cons (pv 0) (pa_cons (pe_glob (v := .ref c9) rfl (X.t 9 _ _ rfl rfl).mg_ rfl) pa_nil))) pa_nil)))) pa_nil)))
      (pss_one (ps_ret (pv 1)))))), ?_⟩
    have mc := mem_of hc
    refine ⟨_, rfl, a, c, v, .ref c1, .ref c1, decide (1 = i), rfl, mc, ea, fun _ r => r, errT_sub X hc (j := 1) rfl (by decide), _, rfl, a, c, v, .ref c2, .ref c2, decide (2 = i), rfl, mc, ea, fun _ r => r, errT_sub X hc (j := 2) rfl (by decide), _, rfl, a, c, v, .ref c3, .ref c3, decide (3 = i), rfl, mc, ea, fun _ r => r, errT_sub X hc (j := 3) rfl (by decide), by show 3 ≤ sizeLine; decide, fun l nl => ?_⟩
    have s1 := Same.new (o := .lst [.bl (decide (1 = i)), .bl (decide (2 = i)), .bl (decide (3 = i))]) nl
    have o1 : upd H l (.lst [.bl (decide (1 = i)), .bl (decide (2 = i)), .bl (decide (3 = i))]) l = some (.lst [.bl (decide (1 = i)), .bl (decide (2 = i)), .bl (decide (3 = i))]) := upd_same
    generalize upd H l (.lst [V.bl (decide (1 = i)), .bl (decide (2 = i)), .bl (decide (3 = i))]) = G1 at s1 o1
    have e1 := ea.same s1
    refine ⟨_, rfl, ty_lst o1, _, rfl, a, c, v, .ref c4, .ref c4, decide (4 = i), rfl, mc, e1, fun _ r => r, errT_sub X hc (j := 4) rfl (by decide), _, rfl, a, c, v, .ref c5, .ref c5, decide (5 = i), rfl, mc, e1, fun _ r => r, errT_sub X hc (j := 5) rfl (by decide), _, rfl, a, c, v, .ref c6, .ref c6, decide (6 = i), rfl, mc, e1, fun _ r => r, errT_sub X hc (j := 6) rfl (by decide), by show 3 ≤ sizeLine; decide, fun l2 nl2 => ?_⟩
    have s2 := Same.new (o := .lst [.bl (decide (4 = i)), .bl (decide (5 = i)), .bl (decide (6 = i))]) nl2
    have o2 : upd G1 l2 (.lst [.bl (decide (4 = i)), .bl (decide (5 = i)), .bl (decide (6 = i))]) l2 = some (.lst [.bl (decide (4 = i)), .bl (decide (5 = i)), .bl (decide (6 = i))]) := upd_same
    generalize upd G1 l2 (.lst [V.bl (decide (4 = i)), .bl (decide (5 = i)), .bl (decide (6 = i))]) = G2 at s2 o2
    have o12 := s2 _ _ o1
    refine ⟨l, l2, _, _, rfl, rfl, o12, o2, by show 6 ≤ sizeLine; decide, ?_⟩
    have k3 : Kl l G2 (upd G2 l (.lst ([.bl (decide (1 = i)), .bl (decide (2 = i)), .bl (decide (3 = i))] ++ [.bl (decide (4 = i)), .bl (decide (5 = i)), .bl (decide (6 = i))]))) := ⟨⟨_, o12⟩, Kp.at⟩
    have o3 : upd G2 l (.lst ([.bl (decide (1 = i)), .bl (decide (2 = i)), .bl (decide (3 = i))] ++ [.bl (decide (4 = i)), .bl (decide (5 = i)), .bl (decide (6 = i))])) l = some (.lst ([.bl (decide (1 = i)), .bl (decide (2 = i)), .bl (decide (3 = i))] ++ [.bl (decide (4 = i)), .bl (decide (5 = i)), .bl (decide (6 = i))])) := upd_same
    have ov3 : Same H (upd G2 l (.lst ([.bl (decide (1 = i)), .bl (decide (2 = i)), .bl (decide (3 = i))] ++ [.bl (decide (4 = i)), .bl (decide (5 = i)), .bl (decide (6 = i))]))) := fun b o e => by
      rw [upd_ne (ne_of_none e nl)]
      exact s2 _ _ (s1 _ _ e)
    have e3 := errAt_kl k3 (e1.same s2)
    generalize upd G2 l (.lst ([V.bl (decide (1 = i)), .bl (decide (2 = i)), .bl (decide (3 = i))] ++ [V.bl (decide (4 = i)), .bl (decide (5 = i)), .bl (decide (6 = i))])) = G3 at o3 ov3 e3
    refine ⟨_, rfl, ty_lst o3, _, rfl, a, c, v, .ref c7, .ref c7, decide (7 = i), rfl, mc, e3, fun _ r => r, errT_sub X hc (j := 7) rfl (by decide), _, rfl, a, c, v, .ref c8, .ref c8, decide (8 = i), rfl, mc, e3, fun _ r => r, errT_sub X hc (j := 8) rfl (by decide), _, rfl, a, c, v, .ref c9, .ref c9, decide (9 = i), rfl, mc, e3, fun _ r => r, errT_sub X hc (j := 9) rfl (by decide), by show 3 ≤ sizeLine; decide, fun l4 nl4 => ?_⟩
    have s4 := Same.new (o := .lst [.bl (decide (7 = i)), .bl (decide (8 = i)), .bl (decide (9 = i))]) nl4
    have o4 : upd G3 l4 (.lst [.bl (decide (7 = i)), .bl (decide (8 = i)), .bl (decide (9 = i))]) l4 = some (.lst [.bl (decide (7 = i)), .bl (decide (8 = i)), .bl (decide (9 = i))]) := upd_same
    generalize upd G3 l4 (.lst [V.bl (decide (7 = i)), .bl (decide (8 = i)), .bl (decide (9 = i))]) = G4 at s4 o4
    have o34 := s4 _ _ o3
    refine ⟨l, l4, _, _, rfl, rfl, o34, o4, by show 9 ≤ sizeLine; decide, ?_⟩
    refine ⟨_, rfl, q l _ (fun b o e => ?_) nl ?_⟩
    · rw [upd_ne (ne_of_none e nl)]
      exact s4 _ _ (ov3 _ _ e)
    · rw [upd_same]
      rfl
end

end Pk56
namespace Pk56
open PySem PySem.Spec PyProof.Rows L2 Gd
section
variable {P : Program} {w : World} {K : PySem.W.Frag} {mg : Str → Option Value} {base : Heap}
set_option maxHeartbeats 8000000 in
-- law: level 4; builtins ['ValueError', 'isinstance', 'len', 'min', 'range', 'repr']; cells ['place']; slots: 0 script, 1 bag, 2 turn, 3 thing, 4 made, 5 place, 6 e, 7 spot
theorem ok_law {c0 c1 c2 c3 c4 c5 c6 c7 c8 c9 fI : Addr} (X : ErrT K mg [c0, c1, c2, c3, c4, c5, c6, c7, c8, c9] ["RangeError", "InvalidRange", "InvalidName", "InvalidSystem", "InvalidRule", "UnknownName", "InvalidNumber", "InvalidMove", "NothingToUndo", "Unreadable"] fI) (h : At K mg "law" s_law ["script"]) (D_RangeError___init__ : DnI P w K mg base 1 fI "RangeError.__init__" s_RangeError___init__ ["self", "value"] (spIni K)) (kI_value : ∀ fd, Fun K "__init__" "RangeError.__init__" s_RangeError___init__ fI fd → ∀ (s : Shared) (a u : Value), BindsTo s fd ⟨[a], [("value", u)]⟩ ((["self", "value"] : List Str).zip [a, u])) (D__law_bag : Dn P w K mg base 1 "_law_bag" s__law_bag ["script"] (sp__law_bag K)) (D__law_draw : Dn P w K mg base 1 "_law_draw" s__law_draw ["bag", "many"] (sp__law_draw K)) (D__law_flags : Dn P w K mg base 1 "_law_flags" s__law_flags ["e"] (sp__law_flags K [c0, c1, c2, c3, c4, c5, c6, c7, c8, c9])) (D__law_made : Dn P w K mg base 3 "_law_made" s__law_made ["thing"] (sp__law_made K [c0, c1, c2, c3, c4, c5, c6, c7, c8, c9])) (m_ValueError : mg "ValueError" = none) (m_isinstance : mg "isinstance" = none) (m_len : mg "len" = none) (m_min : mg "min" = none) (m_range : mg "range" = none) (m_repr : mg "repr" = none) : DnG P w K mg base 4 "law" s_law ["script"] (sp_law K) := by
  refine .mk' h fun f fd F => okG F sc_law (fun vs H Q E h => ?_) (fun cdv A outer s H vs Q E hgd hr h => ?_)
  · obtain ⟨a, ns, rfl, hS, hn, q⟩ := h
    rfl
  · obtain ⟨a, ns, rfl, hS, hn, q⟩ := h
    refine ⟨_, (pss_cons (ps_set (i := 1) sc_law.nd rfl (.inl rfl) (pe_c D__law_bag hr (by rfl) (pa_cons (pv 0) pa_nil)))
      (pss_cons (ps_for PassesOwn.never rfl (pi_range1 (by rfl) m_range (pa_cons (pe_op op_add pe_int (pe_callB (call_min2 rfl) (by rfl) m_min (by decide +kernel) (pa_cons pe_int (pa_cons (pe_callB call_len_seq (by rfl) m_len PySem.boot_len (pa_cons (pv 0) pa_nil)) pa_nil)))) pa_nil)) (pg_name (i := 2) sc_law.nd rfl (.inl rfl))
        (pss_cons (ps_set (i := 3) sc_law.nd rfl (.inl rfl) (pe_ix ix_tup (pe_tup (pa_cons pe_non (pa_cons (pe_tup (pa_cons pe_int (pa_cons pe_int pa_nil))) (pa_cons pe_str (pa_cons (pe_c D__law_draw hr (by rfl) (pa_cons (pv 1) (pa_cons (pe_op op_powW pe_int pe_int) pa_nil))) (pa_cons pe_int (pa_cons (pe_un un_neg pe_int) pa_nil))))))) (pe_c D__law_draw hr (by rfl) (pa_cons (pv 1) (pa_cons pe_int pa_nil))) (fun _ _ => rfl)))
        (pss_cons (ps_set (i := 4) sc_law.nd rfl (.inl rfl) (pe_c D__law_made hr (by rfl) (pa_cons (pv 3) pa_nil)))
        (pss_cons (ps_for PassesOwn.never rfl (pi_range1 (by rfl) m_range (pa_cons pe_int pa_nil)) (pg_name (i := 5) sc_law.nd rfl (.inr rfl))
          (pss_one (ps_for PassesOwn.never rfl (pi_tup (pe_ix ix_list (pv 4) (pv 5) (fun _ _ => rfl))) (pg_name (i := 6) sc_law.nd rfl (.inl rfl))
            (pss_cons (ps_if (PW.pt (pw_or (pt_cmpR op_ne (pe_callB (Gd.call_reprV hgd hr) (by rfl) m_repr (by decide +kernel) (pa_cons (pe_val X.all (pv 6)) pa_nil)) (pe_callB (Gd.call_reprV hgd hr) (by rfl) m_repr (by decide +kernel) (pa_cons (pv 3) pa_nil)) (nomark _)) (pw_or (pt_not (pt_val (pe_callB (call_isX X.all) (by rfl) m_isinstance (by decide +kernel) (pa_cons (pv 6) (pa_cons (pe_glob (v := .ref c0) rfl (X.t 0 _ _ rfl rfl).mg_ rfl) pa_nil))))) (pw_or1 (pt_not (pt_val (pe_callB (call_isX X.all) (by rfl) m_isinstance (by decide +kernel) (pa_cons (pv 6) (pa_cons (pe_bltn (v := .ty "ValueError") (u := .type "ValueError") (by rfl) m_ValueError (by decide +kernel) rfl) pa_nil)))))))))
              (pss_one (ps_ret pe_bl))
              pss_nil)
            (pss_one (ps_if (pt_cmpR (op_neD hr.units) (pe_c D__law_flags hr (by rfl) (pa_cons (pv 6) pa_nil)) (pe_lc (own := [("spot", 7)]) (g := gName 7) rfl sc_law.nd (pi_range1 (by rfl) m_range (pa_cons pe_int pa_nil)) (blkOk_by (N := ["script", "bag", "turn", "thing", "made", "place", "e", "spot"]) (sc := defScope s_law) (by decide +kernel)) (fun _ _ _ _ _ => pg_name (i := 7) sc_law.nd rfl (Or.inl rfl)) (fun _ _ _ _ _ => pts_nil) (fun _ _ _ _ _ => (pe_cmpR op_eq (pv 7) (pv 5) (nomark _)))) (nomark _))
              (pss_one (ps_ret pe_bl))
              pss_nil))))))
        (pss_one (ps_if (PW.pt (pw_or (pt_cmpR op_ne (pe_callB (Gd.call_reprV hgd hr) (by rfl) m_repr (by decide +kernel) (pa_cons (pe_val X.all (pe_mkE (X.t 0 _ _ rfl rfl) D_RangeError___init__ hr (by rfl) (pa_cons (pv 3) pa_nil))) pa_nil)) (pe_callB (Gd.call_reprV hgd hr) (by rfl) m_repr (by decide +kernel) (pa_cons (pv 3) pa_nil)) (nomark _)) (pw_or1 (pt_cmpR op_ne (pe_callB (Gd.call_reprV hgd hr) (by rfl) m_repr (by decide +kernel) (pa_cons (pe_val X.all (pe_mkEk (X.t 0 _ _ rfl rfl) D_RangeError___init__ hr kI_value (by rfl) (pk_cons (pv 3) pk_nil))) pa_nil)) (pe_callB (Gd.call_reprV hgd hr) (by rfl) m_repr (by decide +kernel) (pa_cons (pv 3) pa_nil)) (nomark _)))))
          (pss_one (ps_ret pe_bl))
          pss_nil))))))
      (pss_one (ps_ret (pe_cmpR (op_eqD hr.units) (pe_c D__law_flags hr (by rfl) (pa_cons (pe_mkE (X.t 0 _ _ rfl rfl) D_RangeError___init__ hr (by rfl) (pa_cons pe_str pa_nil)) pa_nil)) (pe_op op_rep (pe_lst (pa_cons pe_bl pa_nil)) pe_int) (nomark _)))))), ?_⟩
    refine ⟨_, rfl, a, ns, rfl, hS, hn, fun b g H1 sm1 nb ng bg rs1 => ?_⟩
    refine ⟨_, rfl, a, _, rfl, .inl (sm1.seq hS), _, _, rfl, _, _, rfl, rfl, _, rfl, ?_, ?_, ?_⟩
    · split <;> omega
    · split <;> omega
    have ml : (4 + (if ((ns.map V.int).length : Int) < 8 then ((ns.map V.int).length : Int) else 8)).toNat ≤ 12 := by split <;> omega
    generalize (4 + (if ((ns.map V.int).length : Int) < 8 then ((ns.map V.int).length : Int) else 8)).toNat = mm at ml
    refine for_range (n := mm) (fun i σ G => BG (2 * i) G b g ∧ ∃ y2 y3 y4 y5 y6 y7, σ = [some (.ref a), some (.ref b), y2, y3, y4, y5, y6, y7]) ⟨rs1, _, _, _, _, _, _, rfl⟩ ?_ ?_
    · rintro i σ G hi ⟨rsG, y2, y3, y4, y5, y6, y7, rfl⟩
      obtain ⟨gs0, l0, u0, bl0, eb0, eg0, _⟩ := rsG.ok
      refine ⟨by show 2 ≤ sizeLine; decide, fun t2 nt2 => ?_⟩
      have tb : t2 ≠ b := Ne.symm (ne_of_none eb0 nt2)
      have tg : t2 ≠ g := Ne.symm (ne_of_none eg0 nt2)
      have s2 := Same.new (o := .tup [.int 2, .int 1]) nt2
      have o2 : upd G t2 (.tup [.int 2, .int 1]) t2 = some (.tup [.int 2, .int 1]) := upd_same
      generalize upd G t2 (.tup [V.int 2, .int 1]) = G1 at s2 o2
      refine ⟨_, rfl, _, _, rfl, rfl, ten20, b, g, _, 2 * i, rfl, rsG.same s2, bg, by omega, by decide, by decide, fun d G2 d0 d1 k2 rs2 => ?_⟩
      have o22 := k2 _ _ tb tg o2
      have d1' : d < 100000000000000000000 := d1
      refine ⟨_, rfl, by show 6 ≤ sizeLine; decide, fun t6 nt6 => ?_⟩
      obtain ⟨gs1, l1, u1, bl1, eb1, eg1, _⟩ := rs2.ok
      have t6b : t6 ≠ b := Ne.symm (ne_of_none eb1 nt6)
      have t6g : t6 ≠ g := Ne.symm (ne_of_none eg1 nt6)
      have s6 := Same.new (o := .tup [.non, .ref t2, .str "text", .int d, .int 0, .int (-1)]) nt6
      have o6 : upd G2 t6 (.tup [.non, .ref t2, .str "text", .int d, .int 0, .int (-1)]) t6 = some (.tup [.non, .ref t2, .str "text", .int d, .int 0, .int (-1)]) := upd_same
      generalize hT : upd G2 t6 (.tup [V.non, .ref t2, .str "text", .int d, .int 0, .int (-1)]) = G3
      replace s6 : Same G2 G3 := hT ▸ s6
      replace o6 : G3 t6 = some (.tup [.non, .ref t2, .str "text", .int d, .int 0, .int (-1)]) := hT ▸ o6
      refine ⟨_, rfl, b, g, _, 2 * i + 1, rfl, rs2.same s6, bg, by omega, by decide, by decide, fun r G4 r0 r1 k4 rs4 => ?_⟩
      have o64 := k4 _ _ t6b t6g o6
      have o24 := k4 _ _ tb tg (s6 _ _ o22)
      obtain ⟨v, ev, mv⟩ := pick_mem (xs := [V.non, .ref t2, .str "text", .int d, .int 0, .int (-1)]) r0 r1
      have t60 : (10 : Nat) ^ 60 = 1000000000000000000000000000000000000000000000000000000000000 := by decide
      have th : Th K G4 v := by
        simp only [List.mem_cons, List.not_mem_nil, or_false] at mv
        rcases mv with rfl | rfl | rfl | rfl | rfl | rfl
        · exact ⟨_, .non, DOk.none.mono (by decide) (by decide)⟩
        · exact ⟨_, .tup (.inl (.inl o24)) (.cons (.int 2) (.cons (.int 1) .nil)), (DOk.tuple (.cons (.int (by decide)) (.cons (.int (by decide)) .nil))).mono (by decide) (by decide)⟩
        · exact ⟨_, .str _, (DOk.str (by decide +kernel) (by decide +kernel) (by decide +kernel)).mono (by decide) (by decide)⟩
        · exact ⟨_, .int d, (DOk.int (by rw [t60]; omega)).mono (by decide) (by decide)⟩
        · exact ⟨_, .int 0, (DOk.int (by decide)).mono (by decide) (by decide)⟩
        · exact ⟨_, .int (-1), (DOk.int (by decide)).mono (by decide) (by decide)⟩
      refine ⟨t6, _, r, v, rfl, rfl, .inl (.inl o64), ev, ?_⟩
      clear mv ev
      refine ⟨_, rfl, v, rfl, fun p G5 es s5 op m9 => ?_⟩
      have th5 := th.same s5
      have rs5 := rs4.same s5
      obtain ⟨dv, dp5, dok⟩ := th5
      refine ⟨9, rfl, by decide, by decide, for_range (n := 9) (fun j σ G' => Same G5 G' ∧ ∃ y5 y6 y7, σ = [some (.ref a), some (.ref b), some (.int (0 + (i : Nat))), some v, some (.ref p), y5, y6, y7]) ⟨Same.refl _, _, _, _, rfl⟩ ?_ ?_⟩
      · rintro j σ G6 hj ⟨s56, y5, y6, y7, rfl⟩
        have lj : j < es.length := by rw [m9.1]; exact hj
        obtain ⟨t, c, ez, hc, pr⟩ := m9.2 j _ (List.getElem?_eq_getElem lj)
        obtain ⟨a1, a2, ot, x1, x2⟩ := pr.same s56
        have mc := mem_of hc
        refine ⟨_, rfl, _, rfl, p, es, _, .ref t, rfl, rfl, .inl (.inl (s56 _ _ op)), at_of (j := j) (by omega) (by rw [List.getElem?_eq_getElem lj, ez]), t, rfl, ⟨_, .inl (.inl ot)⟩, ?_⟩
        refine for_tup (xs := [V.ref a1, .ref a2]) (fun k σ G' => Same G6 G' ∧ ∃ y6 y7, σ = [some (.ref a), some (.ref b), some (.int (0 + (i : Nat))), some v, some (.ref p), some (.int (0 + (j : Nat))), y6, y7]) ⟨Same.refl _, _, _, rfl⟩ (fun k σ G' _ z => .inl (.inl (z.1 _ _ ot))) ?_ ?_
        · rintro k x σ G7 ek ⟨s67, y6, y7, rfl⟩
          have hx : ∃ a', x = .ref a' ∧ ErrAt G7 c a' v := by
            match k, ek with
            | 0, ek => exact ⟨a1, (Option.some.inj ek).symm, x1.same s67⟩
            | 1, ek => exact ⟨a2, (Option.some.inj ek).symm, x2.same s67⟩
            | k + 2, ek => cases ek
          obtain ⟨a', rfl, ea⟩ := hx
          have dp7 := dp_same (s56.trans s67) dp5
          have kit0 : PySem.W.kitOne K (.ref c) (.ref c0) = some true := by
            rw [X.sub (j + 1) 0 c c0 hc rfl, decide_eq_true (.inr rfl)]
          refine ⟨_, rfl, a', c, v, rfl, mc, ea, v, dv, 30, 3, rfl, dp7, dok, by decide, by decide, _, rfl, v, dv, 30, 3, rfl, dp7, dok, by decide, by decide, rfl, false, sNeF, iteF ?_⟩
          refine ⟨_, rfl, a', c, v, .ref c0, .ref c0, true, rfl, mc, ea, fun _ r => r, kit0, true, rfl, iteF ?_⟩
          refine ⟨_, rfl, a', c, v, .ty "ValueError", .type "ValueError", true, rfl, mc, ea, fun _ r => r, X.subV _ _ hc, true, rfl, iteF ?_⟩
          refine ⟨_, rfl, a', c, j + 1, v, rfl, hc, ea, fun l G8 s78 nl ol => ?_⟩
          refine ⟨9, rfl, by decide, by decide, fun D nD => ?_⟩
          refine lc_range (lo := 0) (n := 9) (fun k G' => Same G8 G' ∧ G' D = some (.lst (((List.range k).map fun m => decide (m = j)).map V.bl))) ⟨Same.new nD, upd_same⟩ ?_ ?_
          · rintro k G' hk ⟨sm, oD⟩
            refine ⟨rfl, _, rfl, _, rfl, rfl, _, oD, ?_, fun b' o e => ?_, ?_⟩
            · rw [List.length_map, List.length_map, List.length_range]
              exact Nat.lt_of_le_of_lt (by omega : k ≤ 100) (by decide)
            · rw [upd_ne (ne_of_none e nD)]
              exact sm _ _ e
            · rw [upd_same, List.range_succ, List.map_append, List.map_append]
              have e1 : decide (V.int (0 + (k : Nat)) = V.int (0 + (j : Nat))) = decide (k = j) := by
                by_cases z : k = j
                · rw [decide_eq_true z, decide_eq_true (by rw [z])]
                · rw [decide_eq_false z, decide_eq_false (fun y => z (by have := V.int.inj y; omega))]
              show some (HO.lst (_ ++ [V.bl (decide (V.int (0 + (k : Nat)) = V.int (0 + (j : Nat))))])) = _
              rw [e1]
              rfl
          · rintro G' ⟨sm, oD⟩
            have fl : ∀ j < 9, flagsB (j + 1) = (List.range 9).map fun m => decide (m = j) := by decide
            have le := ly_bls ((List.range 9).map fun m => decide (m = j))
            rw [fl j hj] at ol
            exact ⟨_, _, .lst (.inl (.inl (sm _ _ ol))) (dp_bls _), .lst (.inl (.inl oD)) (dp_bls _), le.shaped, le.shaped, false, by rw [le.eqv]; rfl, iteF ⟨(s67.trans s78).trans sm, _, _, rfl⟩⟩
        · rintro σ G7 ⟨s67, y6, y7, rfl⟩
          exact ⟨s56.trans s67, _, _, _, rfl⟩
      · rintro σ G6 ⟨s56, y5, y6, y7, rfl⟩
        have dp6 := dp_same s56 dp5
        refine ⟨_, rfl, by show 1 ≤ 1000; decide, mk_err (X.t 0 _ _ rfl rfl).ox (X.t 0 _ _ rfl rfl).nV (fun a0 Ga sa na ea => ?_)⟩
        have dpa := dp_same sa dp6
        refine ⟨a0, c0, v, rfl, List.mem_cons_self, ea, v, dv, 30, 3, rfl, dpa, dok, by decide, by decide, _, rfl, v, dv, 30, 3, rfl, dpa, dok, by decide, by decide, rfl, false, sNeF, iteF ?_⟩
        refine ⟨_, rfl, rfl, mk_err (X.t 0 _ _ rfl rfl).ox (X.t 0 _ _ rfl rfl).nV (fun b0 Gb sb nb eb => ?_)⟩
        have dpb := dp_same sb dpa
        refine ⟨b0, c0, v, rfl, List.mem_cons_self, eb, v, dv, 30, 3, rfl, dpb, dok, by decide, by decide, _, rfl, v, dv, 30, 3, rfl, dpb, dok, by decide, by decide, rfl, false, sNeF, iteF ?_⟩
        exact ⟨(rs5.same ((s56.trans sa).trans sb)).mono (by omega), _, _, _, _, _, _, rfl⟩
    · rintro σ G ⟨rsG, y2, y3, y4, y5, y6, y7, rfl⟩
      refine ⟨by show 1 ≤ 1000; decide, mk_err (X.t 0 _ _ rfl rfl).ox (X.t 0 _ _ rfl rfl).nV (fun a0 Ga sa na ea => ?_)⟩
      refine ⟨a0, c0, 0, .str "a", rfl, rfl, ea, fun l Gb sb nl ol => ?_⟩
      refine ⟨by show 1 ≤ sizeLine; decide, fun l2 nl2 => ?_⟩
      have s2 := Same.new (o := .lst [.bl false]) nl2
      have o2 : upd Gb l2 (.lst [.bl false]) l2 = some (.lst [.bl false]) := upd_same
      generalize upd Gb l2 (.lst [V.bl false]) = Gc at s2 o2
      refine ⟨l2, 9, _, rfl, rfl, o2, by decide, by decide, by show 9 ≤ sizeLine; decide, fun p np => ?_⟩
      have s3 := Same.new (o := .lst (List.replicate (9 : Int).toNat [V.bl false]).flatten) np
      have o3 : upd Gc p (.lst (List.replicate (9 : Int).toNat [V.bl false]).flatten) p = some (.lst ((List.replicate 9 false).map V.bl)) := upd_same
      generalize upd Gc p (.lst (List.replicate (9 : Int).toNat [V.bl false]).flatten) = Gd_ at s3 o3
      have le := ly_bls (List.replicate 9 false)
      have e0 : flagsB 0 = List.replicate 9 false := by decide
      rw [e0] at ol
      refine ⟨_, _, .lst (.inl (.inl (s3 _ _ (s2 _ _ ol)))) (dp_bls _), .lst (.inl (.inl o3)) (dp_bls _), le.shaped, le.shaped, ?_⟩
      rw [le.eqv]
      exact q _
end

end Pk56
namespace Pk56
open PySem PySem.Spec PyProof.Rows L2 Gd
set_option maxHeartbeats 8000000
variable {P : Program} {w : World} {K : PySem.W.Frag} {mg : Str → Option Value}
theorem at_mk {x : Str} {st : Stmt} {ps : List Str} {h : Heap} {f : Addr} {oc : Value} {od an : Option Addr} {sl : Array (Option Value)} {kV dc pm cd ct : Value} (X : K.In h) (G : h.Ns mainGlobals mg) (a : PySem.W.nsIn K mainGlobals x = some (some (.ref f))) (l : K.lookup f = some ⟨oc, od, .func (PySem.W.fnOf x x (defArgs st) (defBody st) (defScope st) .none kV dc pm an cd ct), sl⟩) (c : PySem.W.codeIn K cd x = true) (k : PySem.W.keepIn K (.ref f) = true)
    (b : ∀ (kV doc pm : Value) (an : Option Addr) (cdv ct : Value) (us : List Value), us.length = ps.length → bindArgs (PySem.W.fnOf x x (defArgs st) (defBody st) (defScope st) .none kV doc pm an cdv ct) ⟨us, []⟩ = pure (ps.zip us)) : At K mg x st ps :=
  ⟨f, _, fun_mk l c k, (fun_mk l c k).binds b, PySem.W.mg_of X G a⟩
theorem all_mk {l : PySem.W.OpenLaw} {h : Heap} {fa : Addr} (X : K.In h) (G : h.Ns mainGlobals mg) (hfa : mg "law" = some (.ref fa))
    {f0 f1 f2 f3 f4 f5 : Addr} {od0 an0 od1 an1 od2 an2 od3 an3 od4 an4 od5 an5 : Option Addr} {sl0 sl1 sl2 sl3 sl4 sl5 : Array (Option Value)} {oc0 kV0 dc0 pm0 cd0 ct0 oc1 kV1 dc1 pm1 cd1 ct1 oc2 kV2 dc2 pm2 cd2 ct2 oc3 kV3 dc3 pm3 cd3 ct3 oc4 kV4 dc4 pm4 cd4 ct4 oc5 kV5 dc5 pm5 cd5 ct5 : Value}

    {e0 eN0 e1 eN1 e2 eN2 e3 eN3 e4 eN4 e5 eN5 e6 eN6 e7 eN7 e8 eN8 e9 eN9 : Addr} {en0 eq0 en1 eq1 en2 eq2 en3 eq3 en4 eq4 en5 eq5 en6 eq6 en7 eq7 en8 eq8 en9 eq9 : Str} {ebs0 ebm0 esub0 ebs1 ebm1 esub1 ebs2 ebm2 esub2 ebs3 ebm3 esub3 ebs4 ebm4 esub4 ebs5 ebm5 esub5 ebs6 ebm6 esub6 ebs7 ebm7 esub7 ebs8 ebm8 esub8 ebs9 ebm9 esub9 : List Value} {esn0 esn1 esn2 esn3 esn4 esn5 esn6 esn7 esn8 esn9 : List Str} {eab0 eab1 eab2 eab3 eab4 eab5 eab6 eab7 eab8 eab9 : Bool} {ecol0 ecol1 ecol2 ecol3 ecol4 ecol5 ecol6 ecol7 ecol8 ecol9 : Option Bool} {edd0 edd1 edd2 edd3 edd4 edd5 edd6 edd7 edd8 edd9 : Option Addr} {ek00 ek10 ek20 ek30 ek50 ek01 ek11 ek21 ek31 ek51 ek02 ek12 ek22 ek32 ek52 ek03 ek13 ek23 ek33 ek53 ek04 ek14 ek24 ek34 ek54 ek05 ek15 ek25 ek35 ek55 ek06 ek16 ek26 ek36 ek56 ek07 ek17 ek27 ek37 ek57 ek08 ek18 ek28 ek38 ek58 ek09 ek19 ek29 ek39 ek59 : Option Value}
    (xn0 : PySem.W.nsIn K mainGlobals "RangeError" = some (some (.ref e0)))
    (xl0 : K.lookup e0 = some (excClassObj en0 eq0 e0 eN0 ebs0 ebm0 true esn0 esub0 eab0 ecol0 edd0 ek00 ek10 ek20 ek30 ek50 "ValueError.__new__"))
    (xr0 : PySem.HandSPX.refsVE ebm0 = true)
    (xn1 : PySem.W.nsIn K mainGlobals "InvalidRange" = some (some (.ref e1)))
    (xl1 : K.lookup e1 = some (excClassObj en1 eq1 e1 eN1 ebs1 ebm1 true esn1 esub1 eab1 ecol1 edd1 ek01 ek11 ek21 ek31 ek51 "ValueError.__new__"))
    (xr1 : PySem.HandSPX.refsVE ebm1 = true)
    (xn2 : PySem.W.nsIn K mainGlobals "InvalidName" = some (some (.ref e2)))
    (xl2 : K.lookup e2 = some (excClassObj en2 eq2 e2 eN2 ebs2 ebm2 true esn2 esub2 eab2 ecol2 edd2 ek02 ek12 ek22 ek32 ek52 "ValueError.__new__"))
    (xr2 : PySem.HandSPX.refsVE ebm2 = true)
    (xn3 : PySem.W.nsIn K mainGlobals "InvalidSystem" = some (some (.ref e3)))
    (xl3 : K.lookup e3 = some (excClassObj en3 eq3 e3 eN3 ebs3 ebm3 true esn3 esub3 eab3 ecol3 edd3 ek03 ek13 ek23 ek33 ek53 "ValueError.__new__"))
    (xr3 : PySem.HandSPX.refsVE ebm3 = true)
    (xn4 : PySem.W.nsIn K mainGlobals "InvalidRule" = some (some (.ref e4)))
    (xl4 : K.lookup e4 = some (excClassObj en4 eq4 e4 eN4 ebs4 ebm4 true esn4 esub4 eab4 ecol4 edd4 ek04 ek14 ek24 ek34 ek54 "ValueError.__new__"))
    (xr4 : PySem.HandSPX.refsVE ebm4 = true)
    (xn5 : PySem.W.nsIn K mainGlobals "UnknownName" = some (some (.ref e5)))
    (xl5 : K.lookup e5 = some (excClassObj en5 eq5 e5 eN5 ebs5 ebm5 true esn5 esub5 eab5 ecol5 edd5 ek05 ek15 ek25 ek35 ek55 "ValueError.__new__"))
    (xr5 : PySem.HandSPX.refsVE ebm5 = true)
    (xn6 : PySem.W.nsIn K mainGlobals "InvalidNumber" = some (some (.ref e6)))
    (xl6 : K.lookup e6 = some (excClassObj en6 eq6 e6 eN6 ebs6 ebm6 true esn6 esub6 eab6 ecol6 edd6 ek06 ek16 ek26 ek36 ek56 "ValueError.__new__"))
    (xr6 : PySem.HandSPX.refsVE ebm6 = true)
    (xn7 : PySem.W.nsIn K mainGlobals "InvalidMove" = some (some (.ref e7)))
    (xl7 : K.lookup e7 = some (excClassObj en7 eq7 e7 eN7 ebs7 ebm7 true esn7 esub7 eab7 ecol7 edd7 ek07 ek17 ek27 ek37 ek57 "ValueError.__new__"))
    (xr7 : PySem.HandSPX.refsVE ebm7 = true)
    (xn8 : PySem.W.nsIn K mainGlobals "NothingToUndo" = some (some (.ref e8)))
    (xl8 : K.lookup e8 = some (excClassObj en8 eq8 e8 eN8 ebs8 ebm8 true esn8 esub8 eab8 ecol8 edd8 ek08 ek18 ek28 ek38 ek58 "ValueError.__new__"))
    (xr8 : PySem.HandSPX.refsVE ebm8 = true)
    (xn9 : PySem.W.nsIn K mainGlobals "Unreadable" = some (some (.ref e9)))
    (xl9 : K.lookup e9 = some (excClassObj en9 eq9 e9 eN9 ebs9 ebm9 true esn9 esub9 eab9 ecol9 edd9 ek09 ek19 ek29 ek39 ek59 "ValueError.__new__"))
    (xr9 : PySem.HandSPX.refsVE ebm9 = true)
    (xi : PySem.W.findIn K (.ref e0) "__init__" = some (some (.ref f0)))
    (xb0 : errB K e0 f0 = true)
    (xk0 : kitB K e0 0 0 [e0, e1, e2, e3, e4, e5, e6, e7, e8, e9] = true)
    (xb1 : errB K e1 f0 = true)
    (xk1 : kitB K e1 1 0 [e0, e1, e2, e3, e4, e5, e6, e7, e8, e9] = true)
    (xb2 : errB K e2 f0 = true)
    (xk2 : kitB K e2 2 0 [e0, e1, e2, e3, e4, e5, e6, e7, e8, e9] = true)
    (xb3 : errB K e3 f0 = true)
    (xk3 : kitB K e3 3 0 [e0, e1, e2, e3, e4, e5, e6, e7, e8, e9] = true)
    (xb4 : errB K e4 f0 = true)
    (xk4 : kitB K e4 4 0 [e0, e1, e2, e3, e4, e5, e6, e7, e8, e9] = true)
    (xb5 : errB K e5 f0 = true)
    (xk5 : kitB K e5 5 0 [e0, e1, e2, e3, e4, e5, e6, e7, e8, e9] = true)
    (xb6 : errB K e6 f0 = true)
    (xk6 : kitB K e6 6 0 [e0, e1, e2, e3, e4, e5, e6, e7, e8, e9] = true)
    (xb7 : errB K e7 f0 = true)
    (xk7 : kitB K e7 7 0 [e0, e1, e2, e3, e4, e5, e6, e7, e8, e9] = true)
    (xb8 : errB K e8 f0 = true)
    (xk8 : kitB K e8 8 0 [e0, e1, e2, e3, e4, e5, e6, e7, e8, e9] = true)
    (xb9 : errB K e9 f0 = true)
    (xk9 : kitB K e9 9 0 [e0, e1, e2, e3, e4, e5, e6, e7, e8, e9] = true)
    (xj : initB K f0 = true)
    (l0 : K.lookup f0 = some ⟨oc0, od0, .func (PySem.W.fnOf "__init__" "RangeError.__init__" (defArgs s_RangeError___init__) (defBody s_RangeError___init__) (defScope s_RangeError___init__) .none kV0 dc0 pm0 an0 cd0 ct0), sl0⟩) (c0 : PySem.W.codeIn K cd0 "RangeError.__init__" = true) (k0 : PySem.W.keepIn K (.ref f0) = true)
    (a1 : PySem.W.nsIn K mainGlobals "_law_bag" = some (some (.ref f1))) (l1 : K.lookup f1 = some ⟨oc1, od1, .func (PySem.W.fnOf "_law_bag" "_law_bag" (defArgs s__law_bag) (defBody s__law_bag) (defScope s__law_bag) .none kV1 dc1 pm1 an1 cd1 ct1), sl1⟩) (c1 : PySem.W.codeIn K cd1 "_law_bag" = true) (k1 : PySem.W.keepIn K (.ref f1) = true)
    (a2 : PySem.W.nsIn K mainGlobals "_law_draw" = some (some (.ref f2))) (l2 : K.lookup f2 = some ⟨oc2, od2, .func (PySem.W.fnOf "_law_draw" "_law_draw" (defArgs s__law_draw) (defBody s__law_draw) (defScope s__law_draw) .none kV2 dc2 pm2 an2 cd2 ct2), sl2⟩) (c2 : PySem.W.codeIn K cd2 "_law_draw" = true) (k2 : PySem.W.keepIn K (.ref f2) = true)
    (a3 : PySem.W.nsIn K mainGlobals "_law_made" = some (some (.ref f3))) (l3 : K.lookup f3 = some ⟨oc3, od3, .func (PySem.W.fnOf "_law_made" "_law_made" (defArgs s__law_made) (defBody s__law_made) (defScope s__law_made) .none kV3 dc3 pm3 an3 cd3 ct3), sl3⟩) (c3 : PySem.W.codeIn K cd3 "_law_made" = true) (k3 : PySem.W.keepIn K (.ref f3) = true)
    (a4 : PySem.W.nsIn K mainGlobals "_law_flags" = some (some (.ref f4))) (l4 : K.lookup f4 = some ⟨oc4, od4, .func (PySem.W.fnOf "_law_flags" "_law_flags" (defArgs s__law_flags) (defBody s__law_flags) (defScope s__law_flags) .none kV4 dc4 pm4 an4 cd4 ct4), sl4⟩) (c4 : PySem.W.codeIn K cd4 "_law_flags" = true) (k4 : PySem.W.keepIn K (.ref f4) = true)
    (a5 : PySem.W.nsIn K mainGlobals "law" = some (some (.ref f5))) (l5 : K.lookup f5 = some ⟨oc5, od5, .func (PySem.W.fnOf "law" "law" (defArgs s_law) (defBody s_law) (defScope s_law) .none kV5 dc5 pm5 an5 cd5 ct5), sl5⟩) (c5 : PySem.W.codeIn K cd5 "law" = true) (k5 : PySem.W.keepIn K (.ref f5) = true)
    (z0 : PySem.W.nsIn K mainGlobals "ValueError" = some none)
    (z1 : PySem.W.nsIn K mainGlobals "abs" = some none)
    (z2 : PySem.W.nsIn K mainGlobals "int" = some none)
    (z3 : PySem.W.nsIn K mainGlobals "isinstance" = some none)
    (z4 : PySem.W.nsIn K mainGlobals "len" = some none)
    (z5 : PySem.W.nsIn K mainGlobals "min" = some none)
    (z6 : PySem.W.nsIn K mainGlobals "range" = some none)
    (z7 : PySem.W.nsIn K mainGlobals "repr" = some none)
    : ∃ fd : FuncData, (∀ (s : Shared) (v : Value), BindsTo s fd ⟨[v], []⟩ [("script", v)]) ∧ ∀ base : Heap, K.In base → base.Ns mainGlobals mg → FnGd l.prog w K mg base 4 fa fd ["script"] (sp_law K) := by
  have e := hfa.symm.trans (PySem.W.mg_of X G a5)
  cases e
  have XE : ErrT K mg [e0, e1, e2, e3, e4, e5, e6, e7, e8, e9] ["RangeError", "InvalidRange", "InvalidName", "InvalidSystem", "InvalidRule", "UnknownName", "InvalidNumber", "InvalidMove", "NothingToUndo", "Unreadable"] f0 := by
    refine ⟨fun i C x hc hx => ?_, fun i j C D hc hd => ?_, fun i C hc => ?_, rfl⟩
    · match i, hc, hx with
      | 0, hc, hx => obtain rfl := Option.some.inj hc; obtain rfl := Option.some.inj hx; exact ext_mk ⟨_, _, _, _, _, _, _, _, _, _, _, _, _, _, _, xl0, xr0⟩ (PySem.W.mg_of X G xn0) xb0 xj
      | 1, hc, hx => obtain rfl := Option.some.inj hc; obtain rfl := Option.some.inj hx; exact ext_mk ⟨_, _, _, _, _, _, _, _, _, _, _, _, _, _, _, xl1, xr1⟩ (PySem.W.mg_of X G xn1) xb1 xj
      | 2, hc, hx => obtain rfl := Option.some.inj hc; obtain rfl := Option.some.inj hx; exact ext_mk ⟨_, _, _, _, _, _, _, _, _, _, _, _, _, _, _, xl2, xr2⟩ (PySem.W.mg_of X G xn2) xb2 xj
      | 3, hc, hx => obtain rfl := Option.some.inj hc; obtain rfl := Option.some.inj hx; exact ext_mk ⟨_, _, _, _, _, _, _, _, _, _, _, _, _, _, _, xl3, xr3⟩ (PySem.W.mg_of X G xn3) xb3 xj
      | 4, hc, hx => obtain rfl := Option.some.inj hc; obtain rfl := Option.some.inj hx; exact ext_mk ⟨_, _, _, _, _, _, _, _, _, _, _, _, _, _, _, xl4, xr4⟩ (PySem.W.mg_of X G xn4) xb4 xj
      | 5, hc, hx => obtain rfl := Option.some.inj hc; obtain rfl := Option.some.inj hx; exact ext_mk ⟨_, _, _, _, _, _, _, _, _, _, _, _, _, _, _, xl5, xr5⟩ (PySem.W.mg_of X G xn5) xb5 xj
      | 6, hc, hx => obtain rfl := Option.some.inj hc; obtain rfl := Option.some.inj hx; exact ext_mk ⟨_, _, _, _, _, _, _, _, _, _, _, _, _, _, _, xl6, xr6⟩ (PySem.W.mg_of X G xn6) xb6 xj
      | 7, hc, hx => obtain rfl := Option.some.inj hc; obtain rfl := Option.some.inj hx; exact ext_mk ⟨_, _, _, _, _, _, _, _, _, _, _, _, _, _, _, xl7, xr7⟩ (PySem.W.mg_of X G xn7) xb7 xj
      | 8, hc, hx => obtain rfl := Option.some.inj hc; obtain rfl := Option.some.inj hx; exact ext_mk ⟨_, _, _, _, _, _, _, _, _, _, _, _, _, _, _, xl8, xr8⟩ (PySem.W.mg_of X G xn8) xb8 xj
      | 9, hc, hx => obtain rfl := Option.some.inj hc; obtain rfl := Option.some.inj hx; exact ext_mk ⟨_, _, _, _, _, _, _, _, _, _, _, _, _, _, _, xl9, xr9⟩ (PySem.W.mg_of X G xn9) xb9 xj
      | n + 10, hc, _ => simp at hc
    · match i, hc with
      | 0, hc => obtain rfl := Option.some.inj hc; have z := (kitB_at xk0).1 j D hd; rw [Nat.zero_add] at z; exact z
      | 1, hc => obtain rfl := Option.some.inj hc; have z := (kitB_at xk1).1 j D hd; rw [Nat.zero_add] at z; exact z
      | 2, hc => obtain rfl := Option.some.inj hc; have z := (kitB_at xk2).1 j D hd; rw [Nat.zero_add] at z; exact z
      | 3, hc => obtain rfl := Option.some.inj hc; have z := (kitB_at xk3).1 j D hd; rw [Nat.zero_add] at z; exact z
      | 4, hc => obtain rfl := Option.some.inj hc; have z := (kitB_at xk4).1 j D hd; rw [Nat.zero_add] at z; exact z
      | 5, hc => obtain rfl := Option.some.inj hc; have z := (kitB_at xk5).1 j D hd; rw [Nat.zero_add] at z; exact z
      | 6, hc => obtain rfl := Option.some.inj hc; have z := (kitB_at xk6).1 j D hd; rw [Nat.zero_add] at z; exact z
      | 7, hc => obtain rfl := Option.some.inj hc; have z := (kitB_at xk7).1 j D hd; rw [Nat.zero_add] at z; exact z
      | 8, hc => obtain rfl := Option.some.inj hc; have z := (kitB_at xk8).1 j D hd; rw [Nat.zero_add] at z; exact z
      | 9, hc => obtain rfl := Option.some.inj hc; have z := (kitB_at xk9).1 j D hd; rw [Nat.zero_add] at z; exact z
      | n + 10, hc => simp at hc
    · match i, hc with
      | 0, hc => obtain rfl := Option.some.inj hc; exact (kitB_at xk0).2
      | 1, hc => obtain rfl := Option.some.inj hc; exact (kitB_at xk1).2
      | 2, hc => obtain rfl := Option.some.inj hc; exact (kitB_at xk2).2
      | 3, hc => obtain rfl := Option.some.inj hc; exact (kitB_at xk3).2
      | 4, hc => obtain rfl := Option.some.inj hc; exact (kitB_at xk4).2
      | 5, hc => obtain rfl := Option.some.inj hc; exact (kitB_at xk5).2
      | 6, hc => obtain rfl := Option.some.inj hc; exact (kitB_at xk6).2
      | 7, hc => obtain rfl := Option.some.inj hc; exact (kitB_at xk7).2
      | 8, hc => obtain rfl := Option.some.inj hc; exact (kitB_at xk8).2
      | 9, hc => obtain rfl := Option.some.inj hc; exact (kitB_at xk9).2
      | n + 10, hc => simp at hc
  have A0 : AtI K f0 "RangeError.__init__" s_RangeError___init__ ["self", "value"] := ⟨_, fun_mk l0 c0 k0, (fun_mk l0 c0 k0).binds (fun _ _ _ _ _ _ us hl => match us, hl with | [_, _], _ => rfl)⟩
  have kI_value : ∀ fd, Fun K "__init__" "RangeError.__init__" s_RangeError___init__ f0 fd → ∀ (s : Shared) (a u : Value), BindsTo s fd ⟨[a], [("value", u)]⟩ ((["self", "value"] : List Str).zip [a, u]) := by
    intro fd F s a u
    obtain ⟨oc, od, kV, doc, pm, an, cdv, ct, osl, rfl, lk, hcd⟩ := F.ex
    exact .of_eq rfl
  have A1 : At K mg "_law_bag" s__law_bag ["script"] := at_mk X G a1 l1 c1 k1 fun _ _ _ _ _ _ us hl => match us, hl with | [_], _ => rfl
  have A2 : At K mg "_law_draw" s__law_draw ["bag", "many"] := at_mk X G a2 l2 c2 k2 fun _ _ _ _ _ _ us hl => match us, hl with | [_, _], _ => rfl
  have A3 : At K mg "_law_made" s__law_made ["thing"] := at_mk X G a3 l3 c3 k3 fun _ _ _ _ _ _ us hl => match us, hl with | [_], _ => rfl
  have A4 : At K mg "_law_flags" s__law_flags ["e"] := at_mk X G a4 l4 c4 k4 fun _ _ _ _ _ _ us hl => match us, hl with | [_], _ => rfl
  have A5 : At K mg "law" s_law ["script"] := at_mk X G a5 l5 c5 k5 fun _ _ _ _ _ _ us hl => match us, hl with | [_], _ => rfl
  refine ⟨PySem.W.fnOf "law" "law" (defArgs s_law) (defBody s_law) (defScope s_law) .none kV5 dc5 pm5 an5 cd5 ct5, fun s v => .of_eq rfl, fun base _ _ => ?_⟩
  have m_ValueError := PySem.W.mg_none_of X G z0
  have m_abs := PySem.W.mg_none_of X G z1
  have m_int := PySem.W.mg_none_of X G z2
  have m_isinstance := PySem.W.mg_none_of X G z3
  have m_len := PySem.W.mg_none_of X G z4
  have m_min := PySem.W.mg_none_of X G z5
  have m_range := PySem.W.mg_none_of X G z6
  have m_repr := PySem.W.mg_none_of X G z7
  have D_RangeError___init__ := ok_RangeError___init__ (P := l.prog) (w := w) (mg := mg) (base := base) A0
  have D__law_bag := ok__law_bag (P := l.prog) (w := w) (mg := mg) (base := base) A1 m_abs m_int
  have D__law_draw := ok__law_draw (P := l.prog) (w := w) (mg := mg) (base := base) A2 m_int m_len
  have D__law_flags := ok__law_flags (P := l.prog) (w := w) (mg := mg) (base := base) XE A4 m_isinstance
  have D__law_made := ok__law_made (P := l.prog) (w := w) (mg := mg) (base := base) XE A3 D_RangeError___init__ kI_value
  have D_law := ok_law (P := l.prog) (w := w) (mg := mg) (base := base) XE A5 D_RangeError___init__ kI_value D__law_bag D__law_draw D__law_flags D__law_made m_ValueError m_isinstance m_len m_min m_range m_repr
  obtain ⟨f, fd, F, _, g, ok⟩ := D_law.ex
  have e2 := (PySem.W.mg_of X G a5).symm.trans g
  cases e2
  obtain ⟨oc, od, kV, doc, pm, an, cdv, ct, osl, rfl, lk, _⟩ := F.ex
  rw [l5] at lk
  cases lk
  exact ok
end Pk56
open PySem PySem.W PyProof.Rows
set_option maxHeartbeats 0 in
theorem PySem.Challenge.cw_tightranges_k56_errors_made_holds : PySem.Challenge.rw_tightranges_k56_errors_made.Holds := by
  w_on; o_law; k_head; (case hw => w_witness2)
  k_fill
  refine Gd.walkG (l := PySem.Challenge.rw_tightranges_k56_errors_made) (n := 63) (k := 4) (x := "script") (sp := fun w => Pk56.sp_law _) rfl (by decide) rfl ⟨rfl, by decide, by decide⟩ (fun w h Y => PySem.W.kIn_of Y) ?F (fun _ _ a ns hl _ hS => ⟨a, ns, rfl, hS, hl, fun _ => rfl⟩)
  case F =>
    intro w mg fa h KX G hmg
    refine' Pk56.all_mk KX G hmg ?xn0 ?xl0 ?xr0 ?xn1 ?xl1 ?xr1 ?xn2 ?xl2 ?xr2 ?xn3 ?xl3 ?xr3 ?xn4 ?xl4 ?xr4 ?xn5 ?xl5 ?xr5 ?xn6 ?xl6 ?xr6 ?xn7 ?xl7 ?xr7 ?xn8 ?xl8 ?xr8 ?xn9 ?xl9 ?xr9 ?xi ?xb0 ?xk0 ?xb1 ?xk1 ?xb2 ?xk2 ?xb3 ?xk3 ?xb4 ?xk4 ?xb5 ?xk5 ?xb6 ?xk6 ?xb7 ?xk7 ?xb8 ?xk8 ?xb9 ?xk9 ?xj ?l0 ?c0 ?k0 ?a1 ?l1 ?c1 ?k1 ?a2 ?l2 ?c2 ?k2 ?a3 ?l3 ?c3 ?k3 ?a4 ?l4 ?c4 ?k4 ?a5 ?l5 ?c5 ?k5 ?z0 ?z1 ?z2 ?z3 ?z4 ?z5 ?z6 ?z7
    (case xn0 => k_is); (case xl0 => k_is); (case xr0 => first | decide +kernel | rfl | k_is | trace_state); (case xn1 => k_is); (case xl1 => k_is); (case xr1 => first | decide +kernel | rfl | k_is | trace_state); (case xn2 => k_is); (case xl2 => k_is); (case xr2 => first | decide +kernel | rfl | k_is | trace_state); (case xn3 => k_is); (case xl3 => k_is); (case xr3 => first | decide +kernel | rfl | k_is | trace_state); (case xn4 => k_is); (case xl4 => k_is); (case xr4 => first | decide +kernel | rfl | k_is | trace_state); (case xn5 => k_is); (case xl5 => k_is); (case xr5 => first | decide +kernel | rfl | k_is | trace_state); (case xn6 => k_is); (case xl6 => k_is); (case xr6 => first | decide +kernel | rfl | k_is | trace_state); (case xn7 => k_is); (case xl7 => k_is); (case xr7 => first | decide +kernel | rfl | k_is | trace_state); (case xn8 => k_is); (case xl8 => k_is); (case xr8 => first | decide +kernel | rfl | k_is | trace_state); (case xn9 => k_is); (case xl9 => k_is); (case xr9 => first | decide +kernel | rfl | k_is | trace_state); (case xi => k_is); (case xb0 => first | decide +kernel | rfl | k_is | trace_state); (case xk0 => first | decide +kernel | rfl | k_is | trace_state); (case xb1 => first | decide +kernel | rfl | k_is | trace_state); (case xk1 => first | decide +kernel | rfl | k_is | trace_state); (case xb2 => first | decide +kernel | rfl | k_is | trace_state); (case xk2 => first | decide +kernel | rfl | k_is | trace_state); (case xb3 => first | decide +kernel | rfl | k_is | trace_state); (case xk3 => first | decide +kernel | rfl | k_is | trace_state); (case xb4 => first | decide +kernel | rfl | k_is | trace_state); (case xk4 => first | decide +kernel | rfl | k_is | trace_state); (case xb5 => first | decide +kernel | rfl | k_is | trace_state); (case xk5 => first | decide +kernel | rfl | k_is | trace_state); (case xb6 => first | decide +kernel | rfl | k_is | trace_state); (case xk6 => first | decide +kernel | rfl | k_is | trace_state); (case xb7 => first | decide +kernel | rfl | k_is | trace_state); (case xk7 => first | decide +kernel | rfl | k_is | trace_state); (case xb8 => first | decide +kernel | rfl | k_is | trace_state); (case xk8 => first | decide +kernel | rfl | k_is | trace_state); (case xb9 => first | decide +kernel | rfl | k_is | trace_state); (case xk9 => first | decide +kernel | rfl | k_is | trace_state); (case xj => first | decide +kernel | rfl | k_is | trace_state); (case l0 => k_is); (case c0 => k_is); (case k0 => k_is); (case a1 => k_is); (case l1 => k_is); (case c1 => k_is); (case k1 => k_is); (case a2 => k_is); (case l2 => k_is); (case c2 => k_is); (case k2 => k_is); (case a3 => k_is); (case l3 => k_is); (case c3 => k_is); (case k3 => k_is); (case a4 => k_is); (case l4 => k_is); (case c4 => k_is); (case k4 => k_is); (case a5 => k_is); (case l5 => k_is); (case c5 => k_is); (case k5 => k_is); (case z0 => k_is); (case z1 => k_is); (case z2 => k_is); (case z3 => k_is); (case z4 => k_is); (case z5 => k_is); (case z6 => k_is); (case z7 => k_is)
