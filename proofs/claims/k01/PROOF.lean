import PyProof.Rows.All
import Wide.All
import OpenK.AllK
import Wide.FinOn
import HandS.ForMost
import HandS.Deep
import PyProof.ReprReads
import PyProof.ReprRoads
import KE.KDictPairs
import HandS.Strs
import KE.SortData
import HandS.SortOrd
import HandS.Lambda
import HandS.SortKw
import KE.SortKeyHeap
import KE.KSortKey
import KE.GoesMore
import PyProof.Draws
import HandS.Iter
import HandS.Walk
import KE.GoesZip
import KE.GoesEnum
import KE.KDictZip
import KE.KDictList
import PyProof.StrOps2
import HandS.Zip
import HandS.ExcInit
import HandS.Codes
import HandS.Dict
import HandS.ExcIs
import HandS.IsInst
import HandS.StrMore
import HandS.Text
import PySem.Challenge.RW_everyversion_k01_ways_led_and_what_fits
import HandS.More
import KE.IntTextLaws
import HandS.EndBits
set_option Elab.async false
set_option linter.all false
set_option maxRecDepth 100000
set_option maxHeartbeats 3999999
/-! defs that are called where no repr is under way; repr of data -/
namespace GG
open PySem PySem.Spec PyProof.Rows L2

/-- room for k calls, and nothing is being shown -/
structure Rm (k : Nat) (A : Around) : Prop where
  room : Room k A
  gu : A.guards = some []
theorem Rm.mono {j k : Nat} {A : Around} (r : Rm k A) (h : j ≤ k) : Rm j A := ⟨r.room.mono h, r.gu⟩
theorem Rm.into {k : Nat} {A : Around} (r : Rm (k + 1) A) (v : Env) : Rm k (A.deeper v) := ⟨r.room.deeper v, r.gu⟩

/-- the def at f keeps the promise wherever nothing is being shown -/
structure GFn (P : Program) (w : World) (K : PySem.W.Frag) (mg : Str → Option Value) (base : Heap) (CX : CXT) (k : Nat) (f : Addr) (fd : FuncData) (ps : List Str) (sp : Sp) : Prop where
  arity : ∀ vs H Q E, sp vs H Q E → vs.length = ps.length
  go : ∀ (A : Around) (out : List Env) (s : Shared) (H : Hp) (ar : Args) (us : List Value) (vs : List V) (Q : VK) (E : XK),
    Rm k A → Env0 P w K mg base A out s H → BindsTo s fd ar (ps.zip us) → Vals vs us → sp vs H Q E →
    codeAny (model P w) A (.call (.ref f) ar) (CR CX out P w H s Q E) s
section
variable {P : Program} {w : World} {K : PySem.W.Frag} {mg : Str → Option Value} {base : Heap} {CX : CXT} {k : Nat} {f : Addr} {fd : FuncData} {ps : List Str} {sp sp' : Sp}
theorem GFn.mono {j : Nat} (F : GFn P w K mg base CX j f fd ps sp) (h : j ≤ k) : GFn P w K mg base CX k f fd ps sp :=
  ⟨F.arity, fun A o s H ar us vs Q E r => F.go A o s H ar us vs Q E (r.mono h)⟩
theorem GFn.imp (F : GFn P w K mg base CX k f fd ps sp) (h : ∀ vs H Q E, sp' vs H Q E → sp vs H Q E) : GFn P w K mg base CX k f fd ps sp' :=
  ⟨fun vs H Q E q => F.arity vs H Q E (h _ _ _ _ q), fun A o s H ar us vs Q E r e b v q => F.go A o s H ar us vs Q E r e b v (h _ _ _ _ q)⟩

theorem gfn_of {name qual : Str} {prm : Arguments} {body : List Stmt} {sc : Scope} {dV kV dc pm cdv ct oc : Value} {an od : Option Addr} {osl : Array (Option Value)} {N : List Str}
    (lk : K.lookup f = some ⟨oc, od, .func (PySem.W.fnOf name qual prm body sc dV kV dc pm an cdv ct), osl⟩) (cd : PySem.W.codeIn K cdv qual = true) (S : FnScope N ps sc)
    (ar : ∀ vs H Q E, sp vs H Q E → vs.length = ps.length)
    (hb : ∀ (A : Around) (o : List Env) (s : Shared) (H : Hp) (vs : List V) (Q : VK) (E : XK), Rm k (A.deeper (envOfC qual sc s.heap.objs.size f cdv)) → sp vs H Q E →
      ∃ t, PSs (cxOf CX P w K mg base N qual sc f cdv A o s H E) body t ∧ t { nx := fun _ H' => Q .non H', rt := Q } (start N vs) H) :
    GFn P w K mg base CX (k + 1) f (PySem.W.fnOf name qual prm body sc dV kV dc pm an cdv ct) ps sp := by
  constructor
  · exact ar
  intro A o s H arg us vs Q E rm e0 hbind rel hsp
  have hlz := ar _ _ _ _ hsp
  have inKz : K.In s.heap := e0.mod.kin.keeps fun b ob e => (e0.bs b ob e).1
  have nolim : s.heap.NoLimit := e0.mod.nolimit.keeps fun b ob e => (e0.bs b ob e).1
  have kinds : ∀ y ∈ ps.zip us, sc.names.lookup y.1 = some .local ∨ (sc.names.lookup y.1 = some .cell ∧ ((cellsFrom (s.heap.objs.size + 1) sc.names []).lookup y.1).isSome = true) := by
    rintro ⟨n, v⟩ hy
    rcases S.par n (List.of_mem_zip hy).1 with z | z
    · exact Or.inl z
    · exact Or.inr ⟨z, PySem.W.cellsFrom_some _ _ _ (Or.inl z)⟩
  refine codeAny_call_function rm.room.depth (inKz _ _ lk) rfl S.co S.gen rfl (PySem.W.codeRec_of inKz cd) (hbind _ _ _ _ ?_)
  refine wpAny_newFunctionEnv_cells S.kind kinds fun env hE s1 ic => ?_
  subst hE
  refine ⟨nolim.keeps ic.toInCall.keep, codeAny_func ?_⟩
  obtain ⟨t, ht, hqz⟩ := hb A o s H vs Q E (rm.into _) hsp
  have I0 := inv_start (CX := CX) (E := E) S rm.room.hd e0 hlz rel ic
  refine wpAny_mono (ht.run [] s1 (start N vs) H _ I0 hqz) ?_ (fun _ _ z => z)
  intro fl s' hsv0
  cases fl with
  | ret u =>
    obtain ⟨v, σ', H', J, rvz, q⟩ := hsv0
    exact ⟨v, H', J.os, J.bare, J.base, J.hok, rvz, q⟩
  | next =>
    obtain ⟨σ', H', J, q⟩ := hsv0
    exact ⟨V.non, H', J.os, J.bare, J.base, J.hok, rfl, q⟩
  | brk =>
    obtain ⟨_, _, _, q⟩ := hsv0
    exact q.elim
  | cont =>
    obtain ⟨_, _, _, q⟩ := hsv0
    exact q.elim

/-- a def of the text, by itz body (no exception leaves it) -/
theorem okG {x qual : Str} {st : Stmt} {N : List Str} (F : L2.Fun K x qual st f fd) (S : FnScope N ps (defScope st)) (ar : ∀ vs H Q E, sp vs H Q E → vs.length = ps.length)
    (hb : ∀ (cdv : Value) (A : Around) (o : List Env) (s : Shared) (H : Hp) (vs : List V) (Q : VK) (E : XK), Rm k (A.deeper (envOfC qual (defScope st) s.heap.objs.size f cdv)) → sp vs H Q E →
      ∃ t, PSs (cxOf CX0 P w K mg base N qual (defScope st) f cdv A o s H E) (defBody st) t ∧ t { nx := fun _ H' => Q .non H', rt := Q } (start N vs) H) :
    GFn P w K mg base CX0 (k + 1) f fd ps sp := by
  obtain ⟨oc, od, kV, dc, pm, an, cdv, ct, osl, rfl, lk, cd⟩ := F.ex
  exact gfn_of lk cd S ar fun A o s H vs Q E => hb cdv A o s H vs Q E
end

section
variable {X : Cx} {CX : CXT} {k : Nat} {f : Addr} {fd : FuncData} {ps : List Str} {sp : Sp} {dvs : List V} {ds : List Value} {E : XK} {x : Str} {p pos : Pos} {e : Expr} {es : List Expr} {t : TA}
theorem run_g {pins : List (Addr × Obj)} {σ : L2.St} {H : Hp} {s : Shared} {Q : VK} {us : List Value} {vs : List V} (F : GFn X.prog X.w X.K X.mg X.base CX k f fd ps sp) (rm : Rm k X.A) (hb : Binds X.K fd ps ds) (hdz : Vals dvs ds) (hxz : Passes CX X E)
    (I : Inv X pins σ H s) (r : Vals vs us) (h : sp (vs ++ dvs) H Q E) : wpAny (model X.prog X.w) X.A (call (.ref f) us) (EP X pins σ Q) X.xe s := by
  have rr : Vals (vs ++ dvs) (us ++ ds) := r.append hdz
  have le : (us ++ ds).length = ps.length := rr.length ▸ F.arity _ _ _ _ h
  refine wpAny_call (codeAny_mono (F.go X.A X.stack s H ⟨us, []⟩ (us ++ ds) (vs ++ dvs) Q E rm I.env0 (hb s us I.kIn le) rr h) ?_)
  intro res s' hqz
  match res, hqz with
  | .error e, hqz => exact hxz pins σ H s e s' I hqz
  | .ok (.ret u), hqz => exact I.after hqz
  | .ok .next, hqz => exact hqz.elim
  | .ok .brk, hqz => exact hqz.elim
  | .ok .cont, hqz => exact hqz.elim
theorem pe_g (F : GFn X.prog X.w X.K X.mg X.base CX k f fd ps sp) (rm : Rm k X.A) (hgz : Gl X x) (hmz : X.mg x = some (.ref f)) (kp : PySem.W.keepIn X.K (.ref f) = true) (hb : Binds X.K fd ps ds) (hdz : Vals dvs ds) (hxz : Passes CX X E)
    (haz : PA X (e :: es) t) (nd : (x == ("__debug__" : Str)) = false := by decide) (st : starEach (e :: es) X.env = (false, eval e X.env) :: starEach es X.env := by rfl) (np : (backTo pos (starEach es X.env)).any (·.1) = false := by rfl) :
    PE X (.Call (.Name x p) (e :: es) [] pos) (tCall sp dvs E t) := by
  constructor
  intro pins s σ H Q I h
  refine wpAny_Call_Name_kw (ld_glob I hgz hmz ?_ nd)
  refine PySem.W.callWith_K (h₀ := X.base) I.ok.mod.kin kp (thn (haz.run pos pins s σ H _ I h) ?_) st np
  rintro us s1 ⟨vs, H1, Iz1, r, q⟩
  exact ⟨Iz1.kIn, run_g F rm hb hdz hxz Iz1 r q⟩
theorem pe_g0 (F : GFn X.prog X.w X.K X.mg X.base CX k f fd ps sp) (rm : Rm k X.A) (hgz : Gl X x) (hmz : X.mg x = some (.ref f)) (kp : PySem.W.keepIn X.K (.ref f) = true) (hb : Binds X.K fd ps ds) (hdz : Vals dvs ds) (hxz : Passes CX X E)
    (nd : (x == ("__debug__" : Str)) = false := by decide) : PE X (.Call (.Name x p) [] [] pos) (tCall sp dvs E tNil) := by
  constructor
  intro pins s σ H Q I h
  refine wpAny_Call_Name_kw (ld_glob I hgz hmz ?_ nd)
  exact PySem.W.callWith_K0 I.kIn kp (run_g (us := []) F rm hb hdz hxz I .nil h)
end

/-- repr(x) of data -/
def rRepr (K : PySem.W.Frag) : List V → Hp → VK → Prop := fun xs H Q => ∃ (x : V) (d : PyData), xs = [x] ∧ Dp K H x d ∧ d.showable = true ∧ d.hasDict = false ∧ d.depth ≤ 32 ∧ d.shown.length ≤ sizeLine ∧ Q (.str d.shown) H
theorem call_repr {X : Cx} {k : Nat} (rm : Rm k X.A) : CallR X (.builtin "repr") (rRepr X.K) := by
  intro pins s σ H xs us Q I r h
  obtain ⟨x, d, rfl, hdz, sh, nd, dp, sz, q⟩ := h
  obtain ⟨u, rfl, ru⟩ := vals1 r
  obtain ⟨as, rd⟩ := Dp.reads I d x u hdz ru
  have hu := rm.room.units
  cases hdz with
  | non =>
    obtain rfl : u = Value.none := ru
    refine P.repr_of_none ⟨.str "None", H, I.tok _, ⟨_, rfl⟩, ?_⟩
    simpa only [PyData.shown] using q
  | bl b =>
    obtain rfl : u = Value.bool b := ru
    refine P.repr_of_bool ⟨.str (if b then "True" else "False"), H, I.tok _, ⟨s.toks, ?_⟩, ?_⟩
    · cases b <;> rfl
    · simpa only [PyData.shown] using q
  | int i =>
    obtain ⟨t, rfl⟩ := ru
    refine P.repr_of_int (by simpa [PyData.showable] using sh) ⟨.str (toString i), H, I.tok _, ⟨_, rfl⟩, ?_⟩
    simpa only [PyData.shown] using q
  | str z =>
    obtain ⟨t, rfl⟩ := ru
    refine P.repr_of_str ⟨.str (reprText z), H, I.tok _, ⟨_, rfl⟩, ?_⟩ ?_
    · simpa only [PyData.shown] using q
    · simpa only [PyData.shown] using sz
  | lst hsv0 haz =>
    cases ru
    exact repr_of_reads' rd sh (fun e => by rw [nd] at e; cases e) rm.gu (by omega) (fun _ _ e => e) (fun h' u tk hk => ⟨.str _, H, I.kept hk, ⟨u, rfl⟩, q⟩) sz
  | tup hsv0 haz =>
    cases ru
    exact repr_of_reads' rd sh (fun e => by rw [nd] at e; cases e) rm.gu (by omega) (fun _ _ e => e) (fun h' u tk hk => ⟨.str _, H, I.kept hk, ⟨u, rfl⟩, q⟩) sz

/-! ### the end: the law's call from the heap behind the top -/
theorem g_call {P : Program} {w : World} {K : PySem.W.Frag} {mg mb : Str → Option Value} {k : Nat} {fa a : Addr} {fd : FuncData} {x : Str} {sp : Sp} {s1 : Shared} {vs : List Value} {ns : List Int}
    (inKz : K.In s1.heap) (gn : s1.heap.Ns mainGlobals mg) (bn : s1.heap.Ns builtinsNs mb) (bb : ∀ x : Str, x ≠ "__name__" → mb x = bootBuiltins x) (nl : s1.heap.NoLimit) (ng : s1.gens = #[])
    (saz : s1.heap.get? a = some { cls := .type "list", data := .seq vs.toArray }) (hi : IntsAre vs ns) (hlz0 : ns.length ≤ sizeLine) (rm : Rm k callerA)
    (F : ∀ base : Heap, K.In base → base.Ns mainGlobals mg → GFn P w K mg base CX0 k fa fd [x] sp) (hbind : ∀ (s : Shared) (u : Value), BindsTo s fd ⟨[u], []⟩ [(x, u)])
    (hsp : ∀ H : Hp, Only H → SqL K H a (ns.map V.int) → sp [.ref a] H (fun v _ => v = .bl true) fun _ _ _ => False) :
    codeAny (model P w) callerA (.call (.ref fa) ⟨[.ref a], []⟩) (fun r s' => r = .ok (.ret (.bool true)) ∧ OldK s1.heap s'.heap ∧ s'.os = s1.os ∧ AllBare s'.gens) s1 := by
  have rel := vals_ints hi
  have lv := hi.length
  suffices core : ∀ H : Hp, Only H → SqL K H a (ns.map V.int) → HOk P w H s1.heap → (∀ b, H b ≠ none → b = a) → (H a ≠ none → K.lookup a = none) →
      codeAny (model P w) callerA (.call (.ref fa) ⟨[.ref a], []⟩) (fun r s' => r = .ok (.ret (.bool true)) ∧ OldK s1.heap s'.heap ∧ s'.os = s1.os ∧ AllBare s'.gens) s1 by
    cases hk : K.lookup a with
    | some o =>
      have e := inKz a o hk
      rw [saz] at e
      obtain rfl := Option.some.inj e
      exact core (fun _ => none) (fun _ => Or.inl rfl) (Or.inr ⟨_, vs.toArray, _, hk, rfl, rfl, rfl, by rw [List.size_toArray, lv]; exact hlz0, by simpa using rel⟩) (fun _ _ z => nomatch z) (fun _ z => (z rfl).elim) fun z => (z rfl).elim
    | none =>
      let H1 : Hp := fun b => if b = a then some (.frz { cls := .type "list", data := .seq vs.toArray } (.lst (ns.map V.int))) else none
      have at_a : H1 a = some (.frz { cls := .type "list", data := .seq vs.toArray } (.lst (ns.map V.int))) := if_pos rfl
      have off : ∀ b, b ≠ a → H1 b = none := fun b hb => if_neg hb
      refine core H1 (fun b => ?_) (Or.inl (Or.inr ⟨_, at_a⟩)) (fun b u z => ?_) (fun b z => ?_) fun _ => hk
      · by_cases hb : b = a
        · exact Or.inr ⟨_, _, hb ▸ at_a⟩
        · exact Or.inl (off b hb)
      · by_cases hb : b = a
        · subst hb
          rw [at_a] at z
          obtain rfl := Option.some.inj z
          exact ⟨saz, by rw [List.length_map]; exact hlz0, vs, _, rel, saz⟩
        · rw [off b hb] at z
          cases z
      · by_cases hb : b = a
        · exact hb
        · exact (z (off b hb)).elim
  intro H hO hS hok only nk
  have keep0 : ∀ {b : Addr} {o : Obj}, s1.heap.get? b = some o → H b = none → (hidT s1.heap H).get? b = some o := fun e n => hidT_get e n
  have free0 : ∀ {b : Addr} {o : Obj} {es : Array DictEntry} {ep : Nat}, s1.heap.get? b = some o → o.data = .dict es ep → H b = none := by
    intro b o es ep e d
    cases q : H b with
    | none => rfl
    | some u =>
      obtain rfl : b = a := only b (by rw [q]; exact fun z => nomatch z)
      rw [saz] at e
      obtain rfl := Option.some.inj e
      cases (show Data.seq vs.toArray _ = Data.dict es ep from d)
  have ns0 : ∀ {b : Addr} {m : Str → Option Value}, s1.heap.Ns b m → (hidT s1.heap H).Ns b m := by
    rintro b m ⟨o, es, ep, e, d, r⟩
    exact ⟨o, es, ep, keep0 e (free0 e d), d, r⟩
  have in0 : K.In (hidT s1.heap H) := by
    intro b o e
    refine keep0 (inKz b o e) ?_
    cases q : H b with
    | none => rfl
    | some u =>
      have n : H b ≠ none := by rw [q]; exact fun z => nomatch z
      obtain rfl := only b n
      rw [nk n] at e
      cases e
  have m0 : Mod K mg (hidT s1.heap H) := by
    refine ⟨in0, ns0 gn, ⟨mb, ns0 bn, bb⟩, ?_⟩
    obtain ⟨mc, z1, z2⟩ := nl
    exact ⟨mc, ns0 z1, z2⟩
  have e0 : Env0 P w K mg (hidT s1.heap H) callerA [] s1 H := ⟨rfl, m0, fun _ _ e => of_hidT e, Nat.le_of_eq (hidT_size _ _), trivial, fun b z => absurd (show b ∈ ([] : List Addr) from z) (by simp), hok, .of_eq ng⟩
  refine codeAny_mono ((F _ in0 (ns0 gn)).go callerA [] s1 H ⟨[.ref a], []⟩ [.ref a] [.ref a] _ _ rm e0 (hbind s1 (.ref a)) (.cons rfl .nil) (hsp H hO hS)) ?_
  intro r s' z
  match r, z with
  | .error _, z => exact z.elim
  | .ok .next, z => exact z.elim
  | .ok .brk, z => exact z.elim
  | .ok .cont, z => exact z.elim
  | .ok (.ret u), z =>
    obtain ⟨v, H', os, bare, un, hok', rvz, q⟩ := z
    obtain rfl : v = .bl true := q
    obtain rfl : u = Value.bool true := rvz
    refine ⟨rfl, OldK.of_keep ?_, os, bare⟩
    intro b o e
    rcases hO b with n | ⟨ob, xs, n⟩
    · exact un.keep b o e n (fun z => absurd (show b ∈ ([] : List Addr) from z) (by simp)) (by simp)
    · obtain ⟨ez1, _⟩ := hok b _ n
      obtain ⟨ez2, _⟩ := hok' b _ (un.frzs b ob _ n)
      rw [e] at ez1
      obtain rfl := Option.some.inj ez1
      exact ez2
/-- what k_head leaves, from the law's promise -/
theorem walkG {l : PySem.W.OpenLaw} {n k : Nat} {q : Program} {loose : List Str} {XP : (Str → Option Value) → Heap → Prop} {YP : World → Heap → Prop} {d : DefRec} {K : Params → PySem.W.Frag} {sp : PySem.W.Frag → Sp} {x : Str}
    (hnz : l.most = some n) (hn2 : n ≤ sizeLine) (hdf : d.params.defaults = []) (rm : Rm k callerA) (hY : ∀ (w : World) (h : Heap), YP w h → (K w.params).In h)
    (F : ∀ (w : World) (mg : Str → Option Value) (fa : Addr) (h : Heap), (K w.params).In h → h.Ns mainGlobals mg → mg d.name = some (.ref fa) →
      ∃ fd : FuncData, (∀ (s : Shared) (u : Value), BindsTo s fd ⟨[u], []⟩ [(x, u)]) ∧
        ∀ base : Heap, (K w.params).In base → base.Ns mainGlobals mg → GFn l.prog w (K w.params) mg base CX0 k fa fd [x] (sp (K w.params)))
    (hsp : ∀ (K : PySem.W.Frag) (H : Hp) (a : Addr) (ns : List Int), ns.length ≤ n → Only H → SqL K H a (ns.map V.int) → sp K [.ref a] H (fun v _ => v = .bl true) fun _ _ _ => False) :
    PySem.W.WalkO q loose XP YP l.row.toRowW d [] (fun f vs => PySem.call f vs) := by
  refine Att.attach_call hnz hdf ?_
  intro w s0 s1 mg mb fa o pm cd doc a vs ns G Y hoz hdz hcd hmgz hobj hints hlz hgz
  have inKz := hY w _ Y
  obtain ⟨fd, hb, hF⟩ := F w mg fa _ inKz G.T.g hmgz
  exact g_call inKz G.T.g G.T.b G.T.builtins G.T.nolimit hgz hobj hints (Nat.le_trans hlz hn2) rm hF hb fun H hO hS => hsp _ H a ns hlz hO hS
end GG

set_option maxHeartbeats 3999999
/-! tuples whose objects are known to have no dict of their own: their methods, dict() of them -/
namespace GG
open PySem PySem.Spec PyProof.Rows L2
/-- at a stands a tuple of the values xs, no attributes of itz own -/
def TupD (K : PySem.W.Frag) (H : Hp) (a : Addr) (xs : List V) : Prop := (∃ o : Obj, H a = some (.frz o (.tup xs)) ∧ o.dict = none ∧ o.cls = .type "tuple") ∨
  ∃ (o : Obj) (itz : Array Value) (n : Nat), K.lookup a = some o ∧ o.cls = .type "tuple" ∧ o.dict = none ∧ o.data = .seq itz n ∧ itz.size ≤ sizeLine ∧ Vals xs itz.toList
theorem TupD.sq {K : PySem.W.Frag} {H : Hp} {a : Addr} {xs : List V} (t : TupD K H a xs) : SqT K H a xs := by
  rcases t with ⟨o, h, _⟩ | ⟨o, itz, n, h1, h2, h3, h4, h5, h6⟩
  · exact .inl (.inr ⟨o, h⟩)
  · exact .inr ⟨o, itz, n, h1, h2, h4, h5, h6⟩
theorem TupD.mono {K : PySem.W.Frag} {H H' : Hp} {a : Addr} {xs : List V} (s : Same H H') (t : TupD K H a xs) : TupD K H' a xs := by
  rcases t with ⟨o, h, d⟩ | t
  · exact .inl ⟨o, s _ _ h, d⟩
  · exact .inr t
section
variable {X : Cx} {pins : List (Addr × Obj)} {σ : L2.St} {H : Hp} {s : Shared}
/-- the object -/
theorem TupD.obj {a : Addr} {xs : List V} (t : TupD X.K H a xs) (I : Inv X pins σ H s) : ∃ (o : Obj) (itz : List Value) (n : Nat), s.heap.get? a = some o ∧ o.cls = .type "tuple" ∧ o.dict = none ∧ o.data = .seq itz.toArray n ∧ Vals xs itz ∧ xs.length ≤ sizeLine := by
  rcases t with ⟨o, h, d, c⟩ | ⟨o, itz, n, h1, h2, h3, h4, h5, h6⟩
  · obtain ⟨e, z, itz, r, o', e', c', n, dd⟩ := I.hok a _ h
    rw [e] at e'
    obtain rfl := Option.some.inj e'
    exact ⟨o, itz, n, e, c, d, dd, r, z⟩
  · refine ⟨o, itz.toList, n, I.kIn a o h1, h2, h3, by simpa using h4, h6, ?_⟩
    rw [h6.length, Array.length_toList]
    exact h5
end
section
variable {X : Cx} {es : List Expr} {t : TA} {pos : Pos}
def tTupZ (t : TA) : TE := fun σ H Q => t σ H fun xs H1 => xs.length ≤ sizeLine ∧ ∀ p (o : Obj), H1 p = none → o.dict = none → o.cls = .type "tuple" → Q (.ref p) (upd H1 p (.frz o (.tup xs)))
theorem pe_tupZ {x1} (h : PA X es t) : PE X (.Tuple es x1 pos) (tTupZ t) := by
  constructor
  intro pins s σ H Q I hqz
  refine wpAny_Tuple_spliced (thn (h.run pos pins s σ H _ I hqz) ?_)
  rintro us s1 ⟨xs, H1, Iz1, r, z, q⟩
  refine ⟨r.length ▸ z, ?_⟩
  have fr : H1 s1.heap.objs.size = none := Iz1.hok.fresh (Nat.le_refl _)
  exact ⟨.ref s1.heap.objs.size, _, Iz1.laid (t' := s1.toks) (o := .frz { cls := .type "tuple", data := .seq us.toArray } (.tup xs)) (fun b u e => Heap.get?_push_of_some _ e) (Nat.le_refl _)
    ⟨Heap.get?_push_size _ rfl, z, us, r, ⟨_, Heap.get?_push_size _ rfl, rfl, _, rfl⟩⟩, rfl, q _ _ fr rfl rfl⟩
/-- tuple(x) -/
def rTupZ (K : PySem.W.Frag) : List V → Hp → VK → Prop := fun xs H Q => ∃ p ys, xs = [.ref p] ∧ ((SqL K H p ys ∧ ∀ l (o : Obj), H l = none → o.dict = none → o.cls = .type "tuple" → Q (.ref l) (upd H l (.frz o (.tup ys)))) ∨ (SqT K H p ys ∧ Q (.ref p) H))
theorem call_tupZ : CallR X (.type "tuple") (rTupZ X.K) := by
  intro pins s σ H xs us Q I r h
  obtain ⟨p, ys, rfl, h⟩ := h
  obtain ⟨u, rfl, rxz⟩ := vals1 r
  cases rxz
  rcases h with ⟨hqz, q⟩ | ⟨hqz, q⟩
  · obtain ⟨itz, rvz, plz, hzz⟩ := I.list hqz
    have hlz0 := rvz.length
    refine call_tuple_list plz.isList (fun h' kp => ?_) (by simp only [List.size_toArray] <;> omega)
    have Iz1 : Inv X pins σ H { s with heap := h' } := I.kept (t' := s.toks) kp
    refine ⟨.ref h'.objs.size, _, Iz1.laid (t' := s.toks) (o := .frz { cls := .type "tuple", data := .seq itz.toArray } (.tup ys)) (fun b o e => Heap.get?_push_of_some _ e) (Nat.le_refl _) ?_, rfl, q _ _ (Iz1.hok.fresh (Nat.le_refl _)) rfl rfl⟩
    exact ⟨Heap.get?_push_size _ rfl, hzz, itz, rvz, IsTup.new _ _⟩
  · obtain ⟨itz, rvz, plz, hzz⟩ := I.tuple hqz
    exact call_tuple_same plz ⟨.ref p, H, I, rfl, q⟩
/-- t[a:b], a part that is not the whole -/
def rSlZ (K : PySem.W.Frag) : V → Option Int → Option Int → Hp → VK → Prop := fun x lo hi H Q => ∃ a xs, x = .ref a ∧ SqT K H a xs ∧
  ¬ (HT.sIx xs.length 0 lo = 0 ∧ HT.sIx xs.length xs.length hi = xs.length) ∧ ∀ p (o : Obj), H p = none → o.dict = none → o.cls = .type "tuple" → Q (.ref p) (upd H p (.frz o (.tup (cutV xs lo hi))))
theorem sl_tupZ : SlR X (rSlZ X.K) := by
  intro pins s σ H x v vl vu lo hi sl Q I rxz hsv0 plz pu h
  obtain ⟨a, xs, rfl, hxz, hw, q⟩ := h
  cases rxz
  obtain ⟨itz, r, ht, hzz⟩ := I.tuple hxz
  have hlz : itz.toArray.size = xs.length := by rw [List.size_toArray]; exact r.length.symm
  refine ⟨"tuple", _, PyProof.Rows.slot_tuple_getitem.lookup, ht.typeIs, ?_⟩
  refine HT.getItem_tuple_cut ht hsv0 plz pu (by rw [hlz]; exact hw) ?_ (by rw [hlz]; exact hzz)
  rw [hlz]
  have rc := (r.drop (HT.sIx xs.length 0 lo)).take (HT.sIx xs.length xs.length hi - HT.sIx xs.length 0 lo)
  refine ⟨.ref s.heap.objs.size, _, I.laid (t' := s.toks) (o := .frz { cls := .type "tuple", data := .seq ((itz.drop (HT.sIx xs.length 0 lo)).take (HT.sIx xs.length xs.length hi - HT.sIx xs.length 0 lo)).toArray } (.tup (cutV xs lo hi))) (fun b ob q => Heap.get?_push_of_some _ q) (Nat.le_refl _) ?_, rfl, q _ _ (I.hok.fresh (Nat.le_refl _)) rfl rfl⟩
  exact ⟨Heap.get?_push_size _ rfl, Nat.le_trans (cutV_length xs lo hi) hzz, _, rc, IsTup.new _ _⟩
/-- t + u, t not empty -/
def rCatZ (K : PySem.W.Frag) : R2 := fun x y H Q => ∃ a b xs ys, x = .ref a ∧ y = .ref b ∧ SqT K H a xs ∧ SqT K H b ys ∧ xs ≠ [] ∧ xs.length + ys.length ≤ sizeLine ∧
  (ys = [] → Q (.ref a) H) ∧ (ys ≠ [] → ∀ p (o : Obj), H p = none → o.dict = none → o.cls = .type "tuple" → Q (.ref p) (upd H p (.frz o (.tup (xs ++ ys)))))
theorem op_catZ : OpR X (binaryOp .Add) (rCatZ X.K) := by
  intro pins s σ H x y v u Q I rxz ryz h
  obtain ⟨a, b, xs, ys, rfl, rfl, haz, hb, hxz, hzz, q1, q2⟩ := h
  cases rxz
  cases ryz
  obtain ⟨itz, r1, p1, _⟩ := I.tuple haz
  obtain ⟨itz2, r2, p2, _⟩ := I.tuple hb
  refine HT.cat_tup p1 p2 (fun z => hxz (r1.nil_iff.mp z)) (fun z => ⟨.ref a, H, I, rfl, q1 (r2.nil_iff.mp z)⟩) (fun z => ?_) (by rw [← r1.length, ← r2.length]; exact hzz)
  refine ⟨.ref s.heap.objs.size, _, I.laid (t' := s.toks) (o := .frz { cls := .type "tuple", data := .seq (itz ++ itz2).toArray } (.tup (xs ++ ys))) (fun b ob q => Heap.get?_push_of_some _ q) (Nat.le_refl _) ?_, rfl, q2 (fun w => z (r2.nil_iff.mpr w)) _ _ (I.hok.fresh (Nat.le_refl _)) rfl rfl⟩
  exact ⟨Heap.get?_push_size _ rfl, by rw [List.length_append]; exact hzz, _, r1.append r2, IsTup.new _ _⟩
end
section
variable {X : Cx} {o e : Expr} {es : List Expr} {to : TE} {t : TA} {name : Str} {apos cpos : Pos} {id : String} {r : V → List V → Hp → VK → Prop}
/-- t.m(e, ..) of a tuple -/
def tBT (K : PySem.W.Frag) (r : V → List V → Hp → VK → Prop) (to : TE) (t : TA) : TE := fun σ H Q => to σ H fun x H1 => (∃ a xs, x = .ref a ∧ TupD K H1 a xs) ∧ t σ H1 fun xs H2 => r x xs H2 Q
theorem pe_bt (pa : PlainAttrs "tuple") (slot : Slot "tuple" name id) (hty : typeOf (.builtin id) = pure (.type "method_descriptor")) (hmz : MtR X id r) (hoz : PE X o to) (haz : PA X (e :: es) t)
    (hbase : attributeBase o name X.env (eval o X.env) = eval o X.env := by rfl)
    (few : ((backTo cpos (starEach (e :: es) X.env)).all (fun x => !x.1) && (backToKw cpos (keywordEach [] X.env)).all (fun x => x.1.isSome)
      && decide ((e :: es).length + ([] : List Keyword).length + (if ([] : List Keyword).isEmpty then 0 else 1) < 30)) = true := by rfl)
    (hline : (apos.endLine == cpos.line) = true := by rfl) (hsv0 : starEach (e :: es) X.env = (false, eval e X.env) :: starEach es X.env := by rfl) (np : (backTo cpos (starEach es X.env)).any (·.1) = false := by rfl) :
    PE X (.Call (.Attribute o name apos) (e :: es) [] cpos) (tBT X.K r to t) := by
  constructor
  intro pins s σ H Q I h
  refine wpAny_Call_method_late hbase few hline rfl (thn (hoz.run pins s σ H _ I h) ?_)
  rintro v s1 ⟨x, H1, Iz1, r1, ⟨a, xs, rfl, td⟩, q1⟩
  cases r1
  obtain ⟨ob, itz, n, eo, ec, ed, edt, _, _⟩ := td.obj Iz1
  refine ⟨"tuple", id, pa, slot, hty, ⟨ob, eo, ec⟩, fun a' e' => ?_, ?_⟩
  · cases e'
    exact ⟨ob, eo, ed⟩
  have hAz := haz.run cpos pins s1 σ H1 _ Iz1 q1
  rw [hsv0] at hAz ⊢
  refine Calls.callWith_builtin (by show (false || (backTo cpos (starEach es X.env)).any (·.1)) = false; rw [np] <;> rfl) (Calls.evalArgs_plain (thn hAz ?_))
  rintro us s2 ⟨vs, H2, Iz2, r2, q2⟩
  exact hmz pins s2 σ H2 (.ref a) vs _ us Q Iz2 rfl r2 q2
end
section
variable {X : Cx}
/-- dict(t), t a tuple of pairs -/
def rDictT (K : PySem.W.Frag) : List V → Hp → VK → Prop := fun xs H Q => ∃ (a : Addr) (ps : List Addr) (kvs : List (Key × V)), xs = [.ref a] ∧ TupD K H a (ps.map V.ref) ∧ Paired (fun p kv => SqT K H p [kV kv.1, kv.2]) ps kvs ∧
    ∀ p, H p = none → Q (.ref p) (upd H p (.dK (mergeK [] kvs)))
theorem two_of {pins : List (Addr × Obj)} {σ : L2.St} {H : Hp} {s : Shared} (I : Inv X pins σ H s) : ∀ {ps : List Addr} {kvs : List (Key × V)}, Paired (fun p kv => SqT X.K H p [kV kv.1, kv.2]) ps kvs →
    ∃ (prs : List (Key × Value)) (qs : List (Value × Value)), KV kvs prs ∧ prs.length = ps.length ∧ qs.length = ps.length ∧
      ∀ (j : Nat) (k v : Value), qs[j]? = some (k, v) → ∃ (b : Addr) (q : Key × Value), ps[j]? = some b ∧ prs[j]? = some q ∧ q.2 = v ∧ IsTup s.heap b #[k, v] ∧ keyIs q.1 k = true
  | _, _, .nil => ⟨[], [], .nil, rfl, rfl, fun j k v e => by simp at e⟩
  | _, _, .cons (a := p) (b := kv) h t => by
    obtain ⟨prs, qs, r, l1, l2, hpz⟩ := two_of I t
    obtain ⟨itz, rvz, ht, _⟩ := I.tuple h
    obtain ⟨u, y, rfl, ru, ryz⟩ := vals2 rvz
    refine ⟨(kv.1, y) :: prs, (u, y) :: qs, .cons ⟨rfl, ryz⟩ r, congrArg (· + 1) l1, congrArg (· + 1) l2, fun j k v e => ?_⟩
    cases j with
    | zero =>
      have e : (u, y) = (k, v) := Option.some.inj e
      obtain ⟨rfl, rfl⟩ := Prod.mk.inj e
      exact ⟨p, (kv.1, y), rfl, rfl, rfl, ht, kV_is (P := X.prog) (w := X.w) ru⟩
    | succ j => exact hpz j k v e
theorem call_dictT (calm : X.calm = true) : CallR X (.type "dict") (rDictT X.K) := by
  intro pins s σ H xs us Q I r q
  obtain ⟨a, ps, kvs, rfl, hqz, hpz, q⟩ := q
  obtain ⟨u, rfl, rxz⟩ := vals1 r
  cases rxz
  obtain ⟨o, itz, n, eo, ec, ed, edt, rvz, hzz⟩ := hqz.obj I
  obtain rfl := refs_at rvz
  rw [List.length_map] at hzz
  obtain ⟨prs, qs, rel, l1, l2, hpr⟩ := two_of I hpz
  have ok : PlainSeq "tuple" s.heap a (ps.map Value.ref).toArray ∧ PairItems s.heap (ps.map Value.ref).toArray (fun j => ps.getD j 0) qs := by
    refine ⟨⟨o, n, eo, ec, ed, edt⟩, by simp [l2], fun j k v e => ?_⟩
    obtain ⟨b, z, ez1, ez2, e3, e4, e5⟩ := hpr j k v e
    refine ⟨by simp [ez1, List.getD], .inl ?_⟩
    have eg : ps.getD j 0 = b := by rw [List.getD_eq_getElem?_getD, ez1]; rfl
    show s.heap.IsTuple (ps.getD j 0) #[k, v]
    rw [eg]
    exact e4
  refine PySem.call_dict_pairs (knd := mixKind X.prog X.w) (PairArg.tuple a _ _ qs) (I.ok.hd calm) ok (kvs := prs) ⟨l1.trans l2.symm, fun j k v e => ?_⟩ (by omega) ?_
  · obtain ⟨b, z, ez1, ez2, e3, e4, e5⟩ := hpr j k v e
    exact ⟨z.1, by rw [ez2, ← e3], e5⟩
  · intro h' tk hd' kp
    have kp' : ∀ b o, s.heap.get? b = some o → h'.get? b = some o := fun b o e => kp b o (by simp) e
    have hmz : (s.heap.objs.size == sysModules) = false := beq_eq_false_iff_ne.mpr (Nat.ne_of_gt I.big)
    have hlz : (mergeK [] kvs).length ≤ sizeLine := by
      have z := length_mergeK kvs []
      have z2 := rel.length
      rw [List.length_nil] at z
      omega
    exact ⟨.ref s.heap.objs.size, upd H s.heap.objs.size (.dK (mergeK [] kvs)), I.laid (t' := tk) kp' (Nat.le_refl _) (show ObjOk X.prog X.w _ _ _ (.dK (mergeK [] kvs)) from ⟨hlz, hmz, merged [] prs, KV.merge rel .nil, hd'⟩), rfl, q _ (I.hok.fresh (Nat.le_refl _))⟩
end
end GG

set_option maxHeartbeats 3999999
/-! sorted(xs): alike data; tuples that differ in their first text; x in a tuple of data -/
namespace GG
open PySem PySem.Spec PyProof.Rows L2
theorem dp_readsAll {X : Cx} {pins : List (Addr × Obj)} {σ : L2.St} {H : Hp} {s : Shared} (I : Inv X pins σ H s) {us : List V} {ds : List PyData} {vs : List Value} (h : L2.DpAll X.K H us ds) (r : Vals us vs) : ∃ as, ReadsAll s.heap vs ds as := Dp.readsAll I ds us vs h r
theorem dpAll_length {K : PySem.W.Frag} {H : Hp} : ∀ {us : List V} {ds : List PyData}, L2.DpAll K H us ds → us.length = ds.length
  | _, _, .nil => rfl
  | _, _, .cons _ t => congrArg (· + 1) (dpAll_length t)
/-- value by value: what is known of it, what it reads as -/
theorem each_zip {h : Heap} : ∀ {us : List V} {ds : List PyData} {vs : List Value} {as : List Addr}, Vals us vs → ReadsAll h vs ds as →
    PySem.W.EachIs (fun (v : Value) (p : V × PyData) => RelV p.1 v) vs (us.zip ds) ∧ PySem.W.EachIs (fun (v : Value) (p : V × PyData) => ∃ as, Reads h v p.2 as) vs (us.zip ds)
  | _, _, _, _, .nil, .nil => ⟨.nil, .nil⟩
  | _, _, _, _, .cons r rs, .cons q qs => by
    obtain ⟨ez1, ez2⟩ := each_zip rs qs
    exact ⟨.cons r ez1, .cons ⟨_, q⟩ ez2⟩
theorem each_vals : ∀ {vs : List Value} {zs : List (V × PyData)}, PySem.W.EachIs (fun (v : Value) (p : V × PyData) => RelV p.1 v) vs zs → Vals (zs.map Prod.fst) vs
  | _, _, .nil => .nil
  | _, _, .cons r rs => .cons r (each_vals rs)
def sortZ (us : List V) (ds : List PyData) : List (V × PyData) := (us.zip ds).mergeSort (PySem.W.dataLe false Prod.snd)
/-- sorted(xs) of alike data -/
def rSortA (K : PySem.W.Frag) : List V → Hp → VK → Prop := fun xs H Q => ∃ (a : Addr) (us : List V) (ds : List PyData), xs = [.ref a] ∧ SqL K H a us ∧ L2.DpAll K H us ds ∧ PySem.W.AllAlike ds ∧ PySem.W.Sortable ds ∧ (∀ d ∈ ds, d.depth ≤ 32) ∧
  ∀ p, H p = none → Q (.ref p) (upd H p (.lst ((sortZ us ds).map Prod.fst)))
theorem zip_snd {us : List V} {ds : List PyData} (h : us.length = ds.length) : (us.zip ds).map Prod.snd = ds := List.map_snd_zip (by omega)
theorem sortZ_len {us : List V} {ds : List PyData} (h : us.length = ds.length) : (sortZ us ds).length = us.length := by
  unfold sortZ
  rw [List.length_mergeSort, List.length_zip, h, Nat.min_self]
section
variable {X : Cx}
theorem call_sortA {k : Nat} (rm : Rm k X.A) : CallR X (.builtin "sorted") (rSortA X.K) := by
  intro pins s σ H xs us Q I r h
  obtain ⟨a, vs, ds, rfl, hqz, hdz, al, so, dp, q⟩ := h
  obtain ⟨u, rfl, rxz⟩ := vals1 r
  cases rxz
  obtain ⟨itz, rvz, plz, hzz⟩ := I.list hqz
  obtain ⟨as, ra⟩ := dp_readsAll I hdz rvz
  obtain ⟨ez1, ez2⟩ := each_zip rvz ra
  have hu := rm.room.units
  have hlz0 := dpAll_length hdz
  have zs := zip_snd hlz0
  refine PySem.W.sorted_data (enc := Prod.snd) (bs := vs.zip ds) plz.isList ez1 ez2 (by rw [zs]; exact al) (by rw [zs]; exact so) ?_ ?_ ?_
  · rw [List.length_zip, hlz0, Nat.min_self, ← hlz0]
    exact hzz
  · intro p hpz
    have hmz : p.2 ∈ ds := zs ▸ List.mem_map_of_mem hpz
    have := dp p.2 hmz
    omega
  · intro out hlz hez
    obtain ⟨e, hat⟩ := sortedAll_at s.heap itz out.toArray
    have hv := each_vals hez
    have fr : H (s.heap.objs.size + 1) = none := I.hok.fresh (Nat.le_succ _)
    refine ⟨.ref (s.heap.objs.size + 1), _, I.laid (t' := s.toks) (a := s.heap.objs.size + 1) (o := .lst ((sortZ vs ds).map Prod.fst)) (fun b o e => sortedAll_old e) (Nat.le_succ _) ?_, rfl, q _ fr⟩
    refine ⟨?_, out, e, hv, hat⟩
    rw [List.length_map, sortZ_len hlz0]
    exact hzz
end
/-! ### pairs, by their first text -/
/-- v is a pair of n and of data that reads as d -/
def NPair (h : Heap) (v : Value) (n : Str) (d : PyData) : Prop := ∃ a o t y m, v = .ref a ∧ h.get? a = some o ∧ o.cls = .type "tuple" ∧ o.data = .seq #[.str n t, y] m ∧ (∃ as, Reads h y d as) ∧ d.canLay0 = true ∧ d.depth ≤ 32 ∧ PyData.eqv d d = true
theorem NPair.one {h : Heap} {v : Value} {n m : Str} {d e : PyData} (p : NPair h v n d) (q : NPair h v m e) : n = m := by
  obtain ⟨a, o, t, y, k, rfl, ez1, _, d1, _⟩ := p
  obtain ⟨a', o', t', y', k', e0, ez2, _, d2, _⟩ := q
  cases e0
  rw [ez1] at ez2
  obtain rfl := Option.some.inj ez2
  rw [d1] at d2
  cases d2
  rfl
theorem NPair.keep {h h' : Heap} {v : Value} {n : Str} {d : PyData} (k : ∀ b o, h.get? b = some o → h'.get? b = some o) (p : NPair h v n d) : NPair h' v n d := by
  obtain ⟨a, o, t, y, m, e0, ez1, ez2, e3, ⟨as, r⟩, c⟩ := p
  exact ⟨a, o, t, y, m, e0, k _ _ ez1, ez2, e3, ⟨as, PyProof.Rows.Reads.keeps k r⟩, c⟩
open Classical in
noncomputable def firstOf (h : Heap) (v : Value) : List Nat := if p : ∃ n d, NPair h v n d then p.choose.cps.toList else []
theorem firstOf_is {h : Heap} {v : Value} {n : Str} {d : PyData} (p : NPair h v n d) : firstOf h v = n.cps.toList := by
  unfold firstOf
  rw [dif_pos ⟨n, d, p⟩]
  obtain ⟨e, q⟩ := Exists.choose_spec (⟨n, d, p⟩ : ∃ n d, NPair h v n d)
  exact congrArg (fun z : Str => z.cps.toList) (NPair.one q p)
noncomputable def byFirst (h : Heap) (v u : Value) : Bool := decide (firstOf h v < firstOf h u)
theorem swo_first (h : Heap) : SrtO.Swo (byFirst h) := by
  refine ⟨fun x y e => ?_, fun x y z ez1 ez2 => ?_⟩
  · exact decide_eq_false (List.lt_asymm (of_decide_eq_true e))
  · have a := of_decide_eq_false ez1
    have b := of_decide_eq_false ez2
    exact decide_eq_false fun c => a (List.lt_of_le_of_lt (List.not_lt.mp b) c)
section
variable {prog : Program} {w : World} {A : Around} {s : Shared}
theorem first_cmp {vs : List Value} {h0 : Heap} (hk : ∀ b o, h0.get? b = some o → s.heap.get? b = some o) (hu : A.units + 40 < cLine) (hpz : ∀ v ∈ vs, ∃ n d, NPair h0 v n d) (one : ∀ v ∈ vs, ∀ u ∈ vs, firstOf h0 v = firstOf h0 u → v = u) :
    SrtO.Cmp prog w A s (tuples' true) (fun p => p.1 ∈ vs) (SrtO.lt2 (byFirst h0)) := by
  intro p q hmz hm'
  obtain ⟨n1, d1, p1⟩ := hpz _ hmz
  obtain ⟨n2, d2, p2⟩ := hpz _ hm'
  have f1 := firstOf_is p1
  have f2 := firstOf_is p2
  have same := one _ hmz _ hm'
  show wpAny (model prog w) A (keyLt' (tuples' true) p.1 q.1) (fun r s' => s' = s ∧ r = byFirst h0 p.1 q.1) (fun _ _ => False) s
  unfold byFirst
  rw [f1, f2]
  rw [f1, f2] at same
  obtain ⟨a, o, t, y, m, e, hoz, hc, hdz, ⟨as, r1⟩, l1, dd1, v1⟩ := p1.keep hk
  obtain ⟨a', o', t', y', m', e', ho', hc', hd', ⟨as', r2⟩, l2, dd2, v2⟩ := p2.keep hk
  rw [e, e'] at same ⊢
  refine PySem.W.kat_lt hoz hdz ho' hd' ?_
  show PySem.W.KatLex prog w A true (decide (2 < 2)) _ [(.str n1 t, .str n2 t'), (y, y')] 0 s
  refine PySem.W.kat_cons (SeqAt.EqAt.str_str n1 t n2 t' prog w _ _ ?_)
  refine PySem.W.kat_go (fun ez1 => ?_) (fun ez1 => ?_)
  · have en : n1 = n2 := by simpa using ez1
    subst en
    have ea := same rfl
    cases ea
    rw [hoz] at ho'
    obtain rfl := Option.some.inj ho'
    rw [hdz] at hd'
    cases hd'
    refine PySem.W.kat_yes (PySem.W.kat_cons (SeqAt.eqAt_reads d1 d1 A s y y as as r1 r1 l1 l1 (by rw [Nat.min_self]; omega) prog w _ _ ?_))
    rw [v1]
    refine PySem.W.kat_yes (PySem.W.kat_nil ⟨rfl, ?_⟩)
    exact (decide_eq_false (List.lt_irrefl _)).symm
  · exact PySem.W.kat_no (oneLt_str ⟨rfl, rfl⟩)
theorem first_tups {h : Heap} : ∀ {vs : List Value}, (∀ v ∈ vs, ∃ n d, NPair h v n d) → ∃ fs : List Value, PySem.W.KatTups h vs fs ∧ fs.length = vs.length ∧ ∀ f ∈ fs, ∃ x t, f = Value.str x t
  | [], _ => ⟨[], PySem.W.KatTups.nil, rfl, fun _ hmz => by simp at hmz⟩
  | v :: vs, hpz => by
    obtain ⟨fs, h1, h2, h3⟩ := first_tups (vs := vs) fun v' hmz => hpz v' (List.mem_cons_of_mem _ hmz)
    obtain ⟨n, d, a, o, t, y, m, rfl, hoz, hc, hdz, _⟩ := hpz v List.mem_cons_self
    refine ⟨.str n t :: fs, PySem.W.KatTups.cons hoz hc hdz rfl h1, congrArg (· + 1) h2, fun f hmz => ?_⟩
    rcases List.mem_cons.mp hmz with rfl | hmz
    · exact ⟨n, t, rfl⟩
    · exact h3 f hmz
end
/-- a list that is a map's, in another order, is the map of the other order -/
theorem perm_map {α β : Type} {f : α → β} {l m : List β} (p : l.Perm m) : ∀ z : List α, z.map f = m → ∃ z' : List α, List.Perm z' z ∧ z'.map f = l := by
  induction p with
  | nil => intro z e; exact ⟨z, .refl _, e⟩
  | cons x p ih =>
    intro z e
    cases z with
    | nil => cases e
    | cons a z =>
      rw [List.map_cons] at e
      obtain ⟨e0, e⟩ := List.cons.inj e
      obtain ⟨z', p', e'⟩ := ih z e
      exact ⟨a :: z', .cons a p', by rw [List.map_cons, e', e0]⟩
  | swap x y l =>
    intro z e
    match z, e with
    | a :: c :: z, e =>
      rw [List.map_cons, List.map_cons] at e
      obtain ⟨e0, e⟩ := List.cons.inj e
      obtain ⟨ez1, ez2⟩ := List.cons.inj e
      exact ⟨c :: a :: z, .swap _ _ _, by rw [List.map_cons, List.map_cons, e0, ez1, ez2]⟩
  | trans p1 p2 i1 i2 =>
    intro z e
    obtain ⟨z2, q2, ez2⟩ := i2 z e
    obtain ⟨z1, q1, ez1⟩ := i1 z2 ez2
    exact ⟨z1, q1.trans q2, ez1⟩
/-- sorted(xs) of pairs (text, data) with unlike texts -/
def rSortN (K : PySem.W.Frag) : List V → Hp → VK → Prop := fun xs H Q => ∃ (a : Addr) (us : List V) (nd : List (Str × PyData)), xs = [.ref a] ∧ SqL K H a us ∧ L2.DpAll K H us (nd.map fun p => .tuple [.str p.1, p.2]) ∧ (nd.map Prod.fst).Nodup ∧
  (∀ p ∈ nd, p.2.canLay0 = true ∧ p.2.depth ≤ 32 ∧ PyData.eqv p.2 p.2 = true) ∧
  ∀ (out : List (V × (Str × PyData))), out.Perm (us.zip nd) → out.Pairwise (fun p q => p.2.1.cps.toList < q.2.1.cps.toList) → ∀ p, H p = none → Q (.ref p) (upd H p (.lst (out.map Prod.fst)))
theorem np_all {X : Cx} {pins : List (Addr × Obj)} {σ : L2.St} {H : Hp} {s : Shared} (I : Inv X pins σ H s) : ∀ {us : List V} {nd : List (Str × PyData)} {vs : List Value}, L2.DpAll X.K H us (nd.map fun p => .tuple [.str p.1, p.2]) → Vals us vs →
    (∀ p ∈ nd, p.2.canLay0 = true ∧ p.2.depth ≤ 32 ∧ PyData.eqv p.2 p.2 = true) → ∃ z : List (Value × (V × (Str × PyData))), z.map Prod.fst = vs ∧ z.map Prod.snd = us.zip nd ∧ ∀ q ∈ z, RelV q.2.1 q.1 ∧ NPair s.heap q.1 q.2.2.1 q.2.2.2
  | _, [], _, h, r, _ => by
    cases h
    cases r
    exact ⟨[], rfl, rfl, fun _ hmz => by simp at hmz⟩
  | _, p :: nd, _, h, r, hsv0 => by
    cases h with
    | cons h1 h2 =>
      cases r with
      | cons r1 r2 =>
        rename_i v us u vs
        obtain ⟨z, z1, z2, z3⟩ := np_all I h2 r2 fun q hqz => hsv0 q (List.mem_cons_of_mem _ hqz)
        refine ⟨(u, v, p) :: z, by rw [List.map_cons, z1], by rw [List.map_cons, z2]; rfl, fun q hqz => ?_⟩
        rcases List.mem_cons.mp hqz with rfl | hqz
        · refine ⟨r1, ?_⟩
          cases h1 with
          | tup ht haz =>
            cases r1
            obtain ⟨itz, rvz, ⟨o, hoz, hc, m, hdz⟩, _⟩ := I.tuple ht
            cases haz with
            | cons a1 a2 =>
              cases a2 with
              | cons a2 a3 =>
                cases a3
                obtain ⟨x1, x2, rfl, rx1, rx2⟩ := vals2 rvz
                cases a1
                obtain ⟨t, rfl⟩ := rx1
                obtain ⟨c1, c2, c3⟩ := hsv0 p List.mem_cons_self
                exact ⟨_, o, t, x2, m, rfl, hoz, hc, hdz, Dp.reads I p.2 _ x2 a2 rx2, c1, c2, c3⟩
        · exact z3 q hqz
theorem call_sortN {X : Cx} {k : Nat} (rm : Rm k X.A) : CallR X (.builtin "sorted") (rSortN X.K) := by
  intro pins s σ H xs us Q I r h
  obtain ⟨a, vs, nd, rfl, hqz, hdz, no, sm, q⟩ := h
  obtain ⟨u, rfl, rxz⟩ := vals1 r
  cases rxz
  obtain ⟨itz, rvz, plz, hzz⟩ := I.list hqz
  obtain ⟨z, z1, z2, z3⟩ := np_all I hdz rvz sm
  have hu := rm.room.units
  have hlz := rvz.length
  have l2 := dpAll_length hdz
  rw [List.length_map] at l2
  have hpz : ∀ v ∈ itz, ∃ n d, NPair s.heap v n d := fun v hv => by
    rw [← z1] at hv
    obtain ⟨p, hmz, rfl⟩ := List.mem_map.mp hv
    exact ⟨_, _, (z3 p hmz).2⟩
  have zn : (z.map fun p => p.2.2.1).Nodup := by
    have e : z.map (fun p => p.2.2.1) = nd.map Prod.fst := by
      have ez1 : z.map (fun p => p.2.2.1) = ((z.map Prod.snd).map Prod.snd).map Prod.fst := by rw [List.map_map, List.map_map]; rfl
      rw [ez1, z2, List.map_snd_zip (by omega)]
    rw [e]
    exact no
  have inj : ∀ p ∈ z, ∀ q ∈ z, p.2.2.1 = q.2.2.1 → p = q := by
    have : ∀ (l : List (Value × (V × (Str × PyData)))), (l.map fun p => p.2.2.1).Nodup → ∀ p ∈ l, ∀ q ∈ l, p.2.2.1 = q.2.2.1 → p = q := by
      intro l
      induction l with
      | nil => intro _ p hpz; simp at hpz
      | cons x l ih =>
        intro hnz p hpz q hqz e
        rw [List.map_cons, List.nodup_cons] at hnz
        rcases List.mem_cons.mp hpz with hp1 | hp1
        · rcases List.mem_cons.mp hqz with hq1 | hq1
          · rw [hp1, hq1]
          · exact (hnz.1 (List.mem_map.mpr ⟨q, hq1, by rw [← e, hp1]⟩)).elim
        · rcases List.mem_cons.mp hqz with hq1 | hq1
          · exact (hnz.1 (List.mem_map.mpr ⟨p, hp1, by rw [e, hq1]⟩)).elim
          · exact ih hnz.2 p hp1 q hq1 e
    exact this z zn
  have fo : ∀ p ∈ z, firstOf s.heap p.1 = p.2.2.1.cps.toList := fun p hmz => firstOf_is (z3 p hmz).2
  have cps_inj : ∀ x y : Str, x.cps.toList = y.cps.toList → x = y := fun x y e => PySem.W.str_of_cps e
  have one : ∀ v ∈ itz, ∀ u ∈ itz, firstOf s.heap v = firstOf s.heap u → v = u := fun v hv u hu' e => by
    rw [← z1] at hv hu'
    obtain ⟨p, hmz, rfl⟩ := List.mem_map.mp hv
    obtain ⟨q', hm', rfl⟩ := List.mem_map.mp hu'
    rw [fo p hmz, fo q' hm'] at e
    rw [inj p hmz q' hm' (cps_inj _ _ e)]
  refine SrtO.sorted_ord (swo_first s.heap) plz.isList (by omega) (fun h2 h₁ a₁ haz kk h' keep => ?_) fun out hsv0 hb => ?_
  · have kS : ∀ b o, s.heap.get? b = some o → h'.get? b = some o := fun b o e => keep b o (kk b o e).1 (kk b o e).2
    obtain ⟨fs, t1, t2, t3⟩ := first_tups (h := h') fun v hv => by
      obtain ⟨n, d, p⟩ := hpz v hv
      exact ⟨n, d, p.keep kS⟩
    refine ⟨tuples' true, fun Q E hqz => ?_, first_cmp (h0 := s.heap) kS (by show X.A.units + 1 + 1 + 40 < cLine; omega) hpz one⟩
    refine PySem.W.kat_kind (T := .type "str") t1 (by omega) (fun f hmz => ?_) (by rfl) ?_
    · obtain ⟨x, t, rfl⟩ := t3 f hmz
      exact PySem.W.Looks.now
    · have e : (Value.type "str" != Value.type "tuple") = true := by decide +kernel
      rw [e]
      exact hqz
  · obtain ⟨zo, zp, ze⟩ := perm_map hb.perm z z1
    obtain ⟨e, hat⟩ := sortedAll_at s.heap itz out.toArray
    have fr : H (s.heap.objs.size + 1) = none := I.hok.fresh (Nat.le_succ _)
    have hv : Vals ((zo.map Prod.snd).map Prod.fst) out := by
      have : ∀ l : List (Value × (V × (Str × PyData))), (∀ p ∈ l, p ∈ z) → Vals ((l.map Prod.snd).map Prod.fst) (l.map Prod.fst) := by
        intro l
        induction l with
        | nil => intro _; exact .nil
        | cons x l ih => intro hmz; exact .cons (z3 x (hmz x List.mem_cons_self)).1 (ih fun p hpz => hmz p (List.mem_cons_of_mem _ hpz))
      rw [← ze]
      exact this zo fun p hpz => zp.mem_iff.mp hpz
    refine ⟨.ref (s.heap.objs.size + 1), _, I.laid (t' := s.toks) (a := s.heap.objs.size + 1) (o := .lst ((zo.map Prod.snd).map Prod.fst)) (fun b o e => sortedAll_old e) (Nat.le_succ _) ?_, rfl, q (zo.map Prod.snd) ?_ ?_ _ fr⟩
    · have lo := hv.length
      have lp := hb.perm.length_eq
      exact ⟨by omega, out, e, hv, hat⟩
    · rw [← z2]
      exact zp.map _
    · rw [List.pairwise_map]
      have srt : zo.Pairwise fun p q => byFirst s.heap q.1 p.1 = false := by
        have hs' : out.Pairwise fun x y => byFirst s.heap y x = false := hsv0
        rw [← ze, List.pairwise_map] at hs'
        exact hs'
      have nd2 : (zo.map fun p => p.2.2.1).Nodup := (zp.map _).nodup_iff.mpr zn
      rw [List.Nodup, List.pairwise_map] at nd2
      refine (srt.and nd2).imp_of_mem ?_
      rintro p q' hp' hq' ⟨h1, h2⟩
      have b1 := fo p (zp.mem_iff.mp hp')
      have b2 := fo q' (zp.mem_iff.mp hq')
      unfold byFirst at h1
      rw [b1, b2] at h1
      have h1 := of_decide_eq_false h1
      rcases List.le_iff_lt_or_eq.mp (List.not_lt.mp h1) with z | z
      · exact z
      · exact (h2 (cps_inj _ _ z)).elim
/-! ### x in a tuple of data -/
def rInT (K : PySem.W.Frag) : R2 := fun x y H Q => ∃ d ds, L2.Dp K H x d ∧ L2.Dp K H y (.tuple ds) ∧ SeqAt.shaped d = true ∧ SeqAt.shaped (.tuple ds) = true ∧ Q (.bl (ds.any fun z => PyData.eqv z d)) H
theorem op_inT {X : Cx} (hu : X.A.units + 65 < cLine) : OpR X (compareOp .In) (rInT X.K) := by
  intro pins s σ H x y v u Q I rxz ryz h
  obtain ⟨d, ds, hdz, hez, sd, se, q⟩ := h
  obtain ⟨as, r1⟩ := Dp.reads I d x v hdz rxz
  obtain ⟨bs, r2⟩ := Dp.reads I (.tuple ds) y u hez ryz
  exact SeqAt.in_tuple_reads r2 r1 (SeqAt.canLay_of_shaped se) (SeqAt.canLay_of_shaped sd) (room_in_shaped sd hu) ⟨.bl _, H, I, rfl, q⟩
end GG

set_option maxHeartbeats 3999999
/-! sorted(xs, key=lambda pair: pair[0]) -/
namespace GG
open PySem PySem.Spec PyProof.Rows L2
/-- one call of the key -/
theorem key_turn {prog : Program} {w : World} {A : Around} {s : Shared} {E : Value → Shared → Prop} {f t c : Addr} {name qual x : Str} {params : Arguments} {scope : Scope} {cl : List (Str × Addr)} {pm ctv : Value} {j : Nat} {p1 cp pos : Pos} {itz : Array Value} {n : Str} {tk : Tok}
    (hfz : s.heap.get? f = some (PySem.W.kla_obj name qual params (.Subscript (.Name x p1) (.Constant (.int 0) j cp) pos) scope cl pm c ctv)) (hc : s.heap.CodeRec (.ref c) qual) (lim : s.heap.NoLimit) (dep : A.depth < recursionLimit)
    (bd : bindArgs (PySem.W.kla_fn name qual params (.Subscript (.Name x p1) (.Constant (.int 0) j cp) pos) scope cl pm (.ref c) ctv) ⟨[.ref t], []⟩ = pure [(x, .ref t)]) (lx : scope.names.lookup x = some .local)
    (k1 : scope.kind = .function) (k2 : scope.isCoroutine = false) (k3 : scope.isGenerator = false) (k4 : ∀ y ∈ scope.names, y.2 ≠ .cell) (ht : IsTup s.heap t itz) (h0 : itz[0]? = some (.str n tk)) (nd : (x == ("__debug__" : Str)) = false := by decide) :
    wpAny (model prog w) A (call (.ref f) [.ref t]) (PySem.W.KeyPure (.str n) s) E s := by
  refine wpAny_call ?_
  suffices h : codeAny (model prog w) A (.call (.ref f) ⟨[.ref t], []⟩) (fun r s' => ∃ u, r = .ok (.ret u) ∧ PySem.W.KeyPure (.str n) s u s') s by
    refine codeAny_mono h ?_
    rintro r s' ⟨u, rfl, q⟩
    exact q
  refine PySem.W.kla_callFunE dep hfz rfl k2 k3 rfl hc ?_
  rw [bd]
  refine wpAny_pure (wpAny_newFunctionEnv k4 ?_ (fun h₁ hns hsbz => ⟨lim.fresh _ hsbz, ?_⟩) k1)
  · intro y hy
    obtain rfl := List.mem_singleton.mp hy
    exact lx
  have kp : ∀ b o, s.heap.get? b = some o → h₁.get? b = some o := fun b o e => hsbz.extBut b o (Nat.ne_of_lt (Heap.lt_size e)) (Heap.get?_push_of_some _ e)
  refine PySem.W.kla_codeExpr (Subscript_ (wpAny_Name (wpAny_loadName_local k1 lx hns (v := .ref t) ?_ ?_) nd))
  · simp [List.lookup]
  refine wpAny_Constant_int ?_
  refine item_tuple (j := 0) (x := .str n tk) (ht.keeps kp) (by omega) (by omega) ?_ h0 ?_
  · have hzz : 0 < itz.size := by
      rcases Nat.lt_or_ge 0 itz.size with z | z
      · exact z
      · rw [Array.getElem?_eq_none (by omega)] at h0
        cases h0
    rw [seqIndex_of (Int.le_refl 0) (by omega)]
    rfl
  · exact ⟨_, rfl, h₁, _, rfl, kp, .str _ _⟩
/-- the lambda is made; what the tables are then -/
def Made (P : Addr) (q : Str) (H H1 : Hp) : Prop := H1 = H ∨ ∃ (ps more : Array Value) (c : Addr), H P = some (.tbl ps) ∧ H c = none ∧ H1 = upd (upd H P (.tbl (ps ++ more))) c (LamX.CodeO c q)
section
variable {X : Cx} {pins : List (Addr × Obj)} {σ : L2.St} {H : Hp} {s : Shared}
theorem lam_made {c P : Addr} {params : Arguments} {body : Expr} {scope : Scope} {pos : Pos} {Q E : Value → Shared → Prop} (I : Inv X pins σ H s) (tbz : LamX.TabB X.base X.mg c P) (hcode : X.env.code = .ref c) (ts : LamX.TabS H P (X.env.qual ++ "<lambda>"))
    (hdfz : defaultsOf params X.env = ([], [])) (free : ∀ y ∈ scope.names, y.2 = .free → ∃ c, X.env.cells.lookup y.1 = some c)
    (h : ∀ (f c1 : Addr) (pm ctv : Value) (H1 : Hp) (s1 : Shared), Inv X pins σ H1 s1 → Made P (X.env.qual ++ "<lambda>") H H1 → LamX.TabS H1 P (X.env.qual ++ "<lambda>") → s1.heap.CodeRec (.ref c1) (X.env.qual ++ "<lambda>") →
      s1.heap.get? f = some (PySem.W.kla_obj "<lambda>" (X.env.qual ++ "<lambda>") params body scope (cloFrom X.env.cells scope.names []) pm c1 ctv) → Q (.ref f) s1) :
    wpAny (model X.prog X.w) X.A (eval (.Lambda params body scope pos) X.env) Q E s := by
  obtain ⟨ps, hP, tr, am⟩ := ts
  refine PySem.W.kla_eval hdfz ?_
  have bP := tbz.bm.keeps I.bk
  have oP := I.hok P _ hP
  have rec_of : ∀ {c1 : Addr} {H1 : Hp} {s1 : Shared}, Inv X pins σ H1 s1 → H1 c1 = some (LamX.CodeO c1 (X.env.qual ++ "<lambda>")) → s1.heap.CodeRec (.ref c1) (X.env.qual ++ "<lambda>") := by
    intro c1 H1 s1 J e
    obtain ⟨⟨oc, vs, t, ez1, ez2, e3⟩, _⟩ := J.hok c1 _ e
    exact ⟨c1, oc, vs, t, rfl, ez1, ez2, e3⟩
  cases hc : codeAmong pos ps.toList with
  | some cv =>
    obtain ⟨c1, rfl, hco⟩ := am pos cv hc
    refine PySem.W.kla_makeFunctionHit (mg := X.mg) (c := c) (P := P) (ps := ps) (closure_ok free) I.ok.glob (I.mod.glob.keeps I.bk) hcode (tbz.code.keeps I.bk) oP tr hc bP ?_
    intro ctv h1 tk hxz hsz
    have J : Inv X pins σ H { s with heap := h1.push (PySem.W.kla_obj "<lambda>" (X.env.qual ++ "<lambda>") params body scope (cloFrom X.env.cells scope.names []) ((X.mg "__name__").getD .none) c1 ctv), toks := tk } :=
      I.kept fun b o e => Heap.get?_push_of_some _ (hxz b o e)
    exact h _ c1 _ ctv H _ J (.inl rfl) ⟨ps, hP, tr, am⟩ (rec_of J hco) (Heap.get?_push_size _ rfl)
  | none =>
    refine PySem.W.kla_makeFunction (mg := X.mg) (c := c) (P := P) (ps := ps) (closure_ok free) I.ok.glob (I.mod.glob.keeps I.bk) hcode (tbz.code.keeps I.bk) oP tr hc tbz.gP bP ?_
    rintro c1 ctv h1 tk hxz hge hlt ⟨c2, oc, vs, t, ez2, hocz, hdz, hv⟩ htb
    obtain rfl := Value.ref.inj ez2
    have nC : H c1 = none := I.hok.fresh hge
    have nPc : P ≠ c1 := ne_of_none hP nC
    have J := LamX.inv_table (t' := tk) (q := X.env.qual ++ "<lambda>") (more := #[rawInt pos.line, rawInt pos.col, .ref c1]) (h' := h1.push (PySem.W.kla_obj "<lambda>" (X.env.qual ++ "<lambda>") params body scope (cloFrom X.env.cells scope.names []) ((X.mg "__name__").getD .none) c1 ctv)) I hP
      (fun b o hb e => Heap.get?_push_of_some _ (hxz b o hb e)) (Heap.get?_push_of_some _ htb) hge ⟨oc, vs, t, Heap.get?_push_of_some _ hocz, hdz, hv⟩
    have eL : (ps ++ #[rawInt pos.line, rawInt pos.col, .ref c1]).toList = ps.toList ++ [rawInt pos.line, rawInt pos.col, .ref c1] := by simp
    refine h _ c1 _ ctv _ _ J (.inr ⟨ps, _, c1, hP, nC, rfl⟩) ?_ (rec_of J upd_same) (Heap.get?_push_size _ rfl)
    refine ⟨_, by rw [upd_ne nPc, upd_same], by rw [eL]; exact PySem.TriplesOk_snoc _ _ _ _ tr, fun p' cv hcv => ?_⟩
    rw [eL] at hcv
    rcases LamX.among_app _ tr hcv with z | rfl
    · obtain ⟨c0, ez1, e3⟩ := am p' cv z
      exact ⟨c0, ez1, by rw [upd_ne (ne_of_none e3 nC), upd_ne (ne_of e3 hP (LamX.codeO_ne _))]; exact e3⟩
    · exact ⟨c1, rfl, upd_same⟩
end

/-- the first text of a tuple -/
def firstD : PyData → PyData
  | .tuple (.str n :: _) => .str n
  | _ => .none
def sortKZ (us : List V) (ds : List PyData) : List (V × PyData) := (us.zip ds).mergeSort (PySem.W.dataLe false fun p => firstD p.2)
theorem sortKZ_len {us : List V} {ds : List PyData} (h : us.length = ds.length) : (sortKZ us ds).length = us.length := by
  unfold sortKZ
  rw [List.length_mergeSort, List.length_zip, h, Nat.min_self]
def IsNamed (d : PyData) : Prop := ∃ n r, d = .tuple (.str n :: r)
theorem each_both {h : Heap} : ∀ {us : List V} {ds : List PyData} {vs : List Value} {as : List Addr}, Vals us vs → ReadsAll h vs ds as →
    PySem.W.EachIs (fun (v : Value) (p : V × PyData) => RelV p.1 v ∧ ∃ as, Reads h v p.2 as) vs (us.zip ds)
  | _, _, _, _, .nil, .nil => .nil
  | _, _, _, _, .cons r rs, .cons q qs => .cons ⟨r, _, q⟩ (each_both rs qs)
theorem each_fst {h : Heap} : ∀ {vs : List Value} {zs : List (V × PyData)}, PySem.W.EachIs (fun (v : Value) (p : V × PyData) => RelV p.1 v ∧ ∃ as, Reads h v p.2 as) vs zs → Vals (zs.map Prod.fst) vs
  | _, _, .nil => .nil
  | _, _, .cons r rs => .cons r.1 (each_fst rs)
def tSortK (K : PySem.W.Frag) (P : Addr) (q : Str) (te : TE) : TE := fun σ H Q => te σ H fun x H1 => LamX.TabS H1 P q ∧ ∃ (a : Addr) (us : List V) (ds : List PyData), x = .ref a ∧ SqL K H1 a us ∧ L2.DpAll K H1 us ds ∧ (∀ d ∈ ds, IsNamed d) ∧
  ∀ H2 p, Made P q H1 H2 → LamX.TabS H2 P q → H2 p = none → Q (.ref p) (upd H2 p (.lst ((sortKZ us ds).map Prod.fst)))
theorem Made.same {P : Addr} {q : Str} {H H1 : Hp} (m : Made P q H H1) {b : Addr} {o : HO} (e : H b = some o) (n : ∀ ps, o ≠ .tbl ps) : H1 b = some o := by
  rcases m with rfl | ⟨ps, more, c, hP, nC, rfl⟩
  · exact e
  · rw [upd_ne (ne_of_none e nC), upd_ne (ne_of e hP (n ps))]
    exact e
theorem Made.list {P : Addr} {q : Str} {H H1 : Hp} (m : Made P q H H1) {K : PySem.W.Frag} {a : Addr} {us : List V} (h : SqL K H a us) : SqL K H1 a us := by
  rcases h with (h | ⟨o, h⟩) | h
  · exact .inl (.inl (m.same h (by intro _ z; cases z)))
  · exact .inl (.inr ⟨o, m.same h (by intro _ z; cases z)⟩)
  · exact .inr h
theorem Made.tupq {P : Addr} {q : Str} {H H1 : Hp} (m : Made P q H H1) {K : PySem.W.Frag} {a : Addr} {us : List V} (h : SqT K H a us) : SqT K H1 a us := by
  rcases h with (h | ⟨o, h⟩) | h
  · exact .inl (.inl (m.same h (by intro _ z; cases z)))
  · exact .inl (.inr ⟨o, m.same h (by intro _ z; cases z)⟩)
  · exact .inr h
mutual
theorem Made.data {P : Addr} {q : Str} {H H1 : Hp} (m : Made P q H H1) {K : PySem.W.Frag} : ∀ (d : PyData) (v : V), L2.Dp K H v d → L2.Dp K H1 v d
  | .none, _, h => by cases h; exact .non
  | .bool _, _, h => by cases h; exact .bl _
  | .int _, _, h => by cases h; exact .int _
  | .str _, _, h => by cases h; exact .str _
  | .list ds, _, h => by
    cases h with
    | lst hsv0 haz => exact .lst (m.list hsv0) (Made.datas m ds _ haz)
  | .tuple ds, _, h => by
    cases h with
    | tup hsv0 haz => exact .tup (m.tupq hsv0) (Made.datas m ds _ haz)
  | .dict _, _, h => by cases h
theorem Made.datas {P : Addr} {q : Str} {H H1 : Hp} (m : Made P q H H1) {K : PySem.W.Frag} : ∀ (ds : List PyData) (vs : List V), L2.DpAll K H vs ds → L2.DpAll K H1 vs ds
  | [], _, h => by cases h; exact .nil
  | d :: ds, _, h => by
    cases h with
    | cons h1 h2 => exact .cons (Made.data m d _ h1) (Made.datas m ds _ h2)
end
theorem pe_sortK {X : Cx} {k : Nat} {c P : Addr} {params : Arguments} {scope : Scope} {x : Str} {e : Expr} {te : TE} {j : Nat} {p1 cp bp lp kp np pos : Pos} (rm : Rm k X.A) (tbz : LamX.TabB X.base X.mg c P) (hcode : X.env.code = .ref c)
    (hgz : Gl X "sorted") (hmz : X.mg "sorted" = none) (haz : PA X [e] (tCons te tNil))
    (hdfz : defaultsOf params X.env = ([], []))
    (bd : ∀ (cl : List (Str × Addr)) (pm ctv : Value) (c1 t : Addr), bindArgs (PySem.W.kla_fn "<lambda>" (X.env.qual ++ "<lambda>") params (.Subscript (.Name x p1) (.Constant (.int 0) j cp) bp) scope cl pm (.ref c1) ctv) ⟨[.ref t], []⟩ = pure [(x, .ref t)])
    (lx : scope.names = [(x, .local)]) (k1 : scope.kind = .function) (k2 : scope.isCoroutine = false) (k3 : scope.isGenerator = false) (nd : (x == ("__debug__" : Str)) = false := by decide)
    (hsv0 : backTo pos (starEach [e] X.env) = (false, eval e X.env) :: backTo pos (starEach [] X.env) := by rfl) (hpl : (backTo pos (starEach [e] X.env)).any (·.1) = false := by rfl) :
    PE X (.Call (.Name "sorted" np) [e] [⟨some "key", .Lambda params (.Subscript (.Name x p1) (.Constant (.int 0) j cp) bp) scope lp, kp⟩] pos) (tSortK X.K P (X.env.qual ++ "<lambda>") te) := by
  refine ⟨fun pins s σ H Q I h => ?_⟩
  refine wpAny_Call_Name_kw (ld_blt I hgz hmz (u := .builtin "sorted") (by rfl) ?_)
  refine PyProof.Rows.callWith_kw (thn (haz.run pos pins s σ H (fun vs H1 => match vs with
    | [x] => LamX.TabS H1 P (X.env.qual ++ "<lambda>") ∧ ∃ (a : Addr) (us : List V) (ds : List PyData), x = .ref a ∧ SqL X.K H1 a us ∧ L2.DpAll X.K H1 us ds ∧ (∀ d ∈ ds, IsNamed d) ∧
    ∀ H2 p, Made P (X.env.qual ++ "<lambda>") H1 H2 → LamX.TabS H2 P (X.env.qual ++ "<lambda>") → H2 p = none → Q (.ref p) (upd H2 p (.lst ((sortKZ us ds).map Prod.fst)))
    | _ => False) I h) ?_) hsv0 hpl
  rintro vs1 s1 ⟨vs, H1, Iz1, r1, qq⟩
  match vs, qq, r1 with
  | [], qq, _ => exact qq.elim
  | _ :: _ :: _, qq, _ => exact qq.elim
  | [v], qq, r1 =>
  obtain ⟨ts, a, us, ds, rfl, hlz0, hdz, nm, q⟩ := qq
  obtain ⟨u, rfl, ru⟩ := vals1 r1
  obtain rfl : u = Value.ref a := ru
  have lxn : scope.names.lookup x = some .local := by rw [lx]; simp [List.lookup]
  refine wpAny_evalAll_cons (wpAny_bind (lam_made Iz1 tbz hcode ts hdfz (by rw [lx]; intro y hy; obtain rfl := List.mem_singleton.mp hy; intro z; cases z) ?_))
  intro f c1 pm ctv H2 s2 Iz2 md ts2 rec hfz
  refine wpAny_bind (wpAny_standAt (wpAny_pure (wpAny_evalAll_nil ?_)))
  obtain ⟨itz, rvz, plz, hzz⟩ := Iz2.list (md.list hlz0)
  obtain ⟨as, ra⟩ := dp_readsAll Iz2 (md.datas _ _ hdz) rvz
  have hlz := dpAll_length hdz
  have zs := zip_snd hlz
  have key_is : ∀ d, IsNamed d → ∃ n, firstD d = .str n := by
    rintro d ⟨n, r, rfl⟩
    exact ⟨n, rfl⟩
  have named : ∀ p ∈ us.zip ds, IsNamed p.2 := fun p hpz => nm p.2 (zs ▸ List.mem_map_of_mem hpz)
  refine PySem.W.sorted_key_data (b := false) (fun p : V × PyData => firstD p.2) plz.isList (each_both rvz ra) ?_ ?_ ?_ ?_ (ksk_s1 _ _) (fun _ => ksk_l1 _ _) (fun _ => ksk_t1 _ _) ?_ ?_
  · intro d hd1 d' hd2
    obtain ⟨p, hpz, rfl⟩ := List.mem_map.mp hd1
    obtain ⟨p', hp', rfl⟩ := List.mem_map.mp hd2
    obtain ⟨n, e⟩ := key_is _ (named p hpz)
    obtain ⟨n', e'⟩ := key_is _ (named p' hp')
    rw [e, e']
    simp [PySem.W.alike]
  · refine .inr fun d hd1 => ?_
    obtain ⟨p, hpz, rfl⟩ := List.mem_map.mp hd1
    obtain ⟨n, e⟩ := key_is _ (named p hpz)
    rw [e]
    exact ⟨(fun z => by cases z), (fun xs z => by cases z)⟩
  · rw [List.length_zip, hlz, Nat.min_self, ← hlz]
    exact hzz
  · intro p hpz
    obtain ⟨n, e⟩ := key_is _ (named p hpz)
    rw [e]
    have := rm.room.un
    simp only [PyData.depth]
    omega
  · rintro v p ⟨r, as, rd⟩ hpz h tk kp'
    obtain ⟨n, r', ep⟩ := named p hpz
    rw [ep] at rd ⊢
    cases rd with
    | tuple ez1 ez2 e3 e4 =>
      rename_i t o vs m
      cases hv : vs.toList with
      | nil =>
        rw [hv] at e4
        cases e4
      | cons v0 rest =>
        rw [hv] at e4
        cases e4 with
        | cons f1 f2 =>
          cases f1 with
          | str x tk' =>
            have h0 : vs[0]? = some (.str n tk') := by
              rw [← Array.getElem?_toList, hv]
              rfl
            obtain ⟨c0, oc, cs, tq, g1, g2, g3, g4⟩ := rec
            obtain rfl := Value.ref.inj g1
            exact key_turn (s := { s2 with heap := h, toks := tk }) (kp' _ _ hfz) ⟨c1, oc, cs, tq, rfl, kp' _ _ g2, g3, g4⟩ (Iz2.nolimit.keeps kp') rm.room.depth (bd _ _ _ _ _) lxn k1 k2 k3
              (by rw [lx]; intro y hy; obtain rfl := List.mem_singleton.mp hy; intro z; cases z) ⟨o, kp' _ _ ez1, ez2, m, e3⟩ h0 nd
  · intro out c' h' tk oldz fr hat hol he'
    have nw : H2 (s2.heap.objs.size + 1) = none := Iz2.hok.fresh (Nat.le_succ _)
    refine ⟨.ref (s2.heap.objs.size + 1), _, Iz2.laid (t' := tk) (a := s2.heap.objs.size + 1) (o := .lst ((sortKZ us ds).map Prod.fst)) (fun b o e => oldz b o e) (Nat.le_succ _) ?_, rfl, q _ _ md ts2 nw⟩
    refine ⟨?_, out, c', each_fst he', hat⟩
    rw [List.length_map, sortKZ_len hlz]
    exact hzz
end GG

set_option maxHeartbeats 3999999
/-! for i, x in enumerate(t), t a tuple -/
namespace PySem
set_option maxHeartbeats 1000000 in
theorem enum_new1 {v : Value} {o : Obj} {H : Heap → Prop} (B : Begins v o H) :
    Meets (Builtin.«enumerate.__new__» ⟨[.type "enumerate", v], []⟩) (fun _ R s => H s.heap ∧
      R (.ok (.ret (.ref (s.heap.push o).objs.size))) { s with heap := (s.heap.push o).push { cls := .type "enumerate", data := .fields #[.none, .bool false, .ref s.heap.objs.size, rawInt 0, .none, .none] } }) :=
  .of_wp fun prog w A R s h => by
    obtain ⟨hpz, g, d, tk, os⟩ := s
    obtain ⟨h1, h⟩ := h
    have hsub := sub_enumerate
    have it1 : ∀ {A' : Around} {E : Value → Shared → Prop} {Q : Value → Shared → Prop}, Q (.ref hpz.objs.size) ⟨hpz.push o, g, d, tk, os⟩ → wpAny (model prog w) A' (pyIter v) Q E ⟨hpz, g, d, tk, os⟩ := fun q => B.iter prog w _ _ ⟨hpz, g, d, tk, os⟩ _ h1 q
    wp_walk using it1
    refine wpAny_stack_any fun st => wpAny_pure ?_
    split
    · rename_i c _ _ _ _ _
      cases (c == Value.type "enumerate") <;> (wp_walk using it1; exact ⟨_, rfl, h⟩)
    · wp_walk using it1
      exact ⟨_, rfl, h⟩
end PySem
namespace GG
open PySem PySem.Spec PyProof.Rows L2
theorem call_enum1 {prog : Program} {w : World} {A : Around} {E : Value → Shared → Prop} {s : Shared} {v : Value} {o : Obj} {H : Heap → Prop} {Q : Value → Shared → Prop} (B : Begins v o H) (h1 : H s.heap)
    (h : ∀ h', IsEnum h' (s.heap.objs.size + 1) s.heap.objs.size 0 .none → h'.get? s.heap.objs.size = some o → (∀ b o, s.heap.get? b = some o → h'.get? b = some o) → Q (.ref (s.heap.objs.size + 1)) { s with heap := h' }) :
    wpAny (model prog w) A (call (.type "enumerate") [v]) Q E s := by
  refine callType_new F.called_enumerate (by decide) (F.typeCall_enumerate_1 _) (F.newCall_enumerate_1 _) (fun obj => F.args_object_init_2 obj _) F.entry_enumerate_new (enum_new1 B) ⟨h1, ?_⟩
  have hzz : (s.heap.push o).objs.size = s.heap.objs.size + 1 := Heap.size_push ..
  show _ ∧ _
  rw [hzz]
  have hez : IsEnum ((s.heap.push o).push { cls := .type "enumerate", data := .fields #[.none, .bool false, .ref s.heap.objs.size, rawInt 0, .none, .none] }) (s.heap.objs.size + 1) s.heap.objs.size 0 .none := by
    have q := Heap.get?_push_size (s.heap.push o) (o := { cls := .type "enumerate", data := .fields #[.none, .bool false, .ref s.heap.objs.size, rawInt 0, .none, .none] }) rfl
    rw [hzz] at q
    exact q
  exact ⟨⟨_, hez, rfl⟩, h _ hez (Heap.get?_push_of_some _ (Heap.get?_push_size _ B.free)) fun b o x => Heap.get?_push_of_some _ (Heap.get?_push_of_some _ x)⟩
/-- the tuple at a, each item in a new pair -/
def IteT (K : PySem.W.Frag) (a : Addr) : It where
  go := fun i H => ∃ (xs : List V) (x : V), SqT K H a xs ∧ xs[i]? = some x
  yld := fun i H v H' => ∃ T x, v = .ref T ∧ H T = none ∧ H' = upd H T (.tup [.int (i : Nat), x]) ∧ ∀ xs, SqT K H a xs → xs[i]? = some x
  stop := fun i H => ∃ xs : List V, SqT K H a xs ∧ xs.length = i
theorem apart {h : Heap} {e it a : Addr} {i : Int} {oldz : Value} {j : Nat} {itz : Array Value} (hez : IsEnum h e it i oldz) (hi : h.IsTupleIter it a j) (ht : h.IsTuple a itz) : a ≠ it ∧ e ≠ a := by
  obtain ⟨o1, q1, c1, _⟩ := hi
  obtain ⟨o2, q2, c2, _⟩ := ht
  refine ⟨fun z => ?_, fun z => ?_⟩
  · subst z
    rw [q1] at q2
    obtain rfl := Option.some.inj q2
    rw [c1] at c2
    injection c2 with c2
    exact absurd c2 (by decide)
  · subst z
    unfold IsEnum at hez
    rw [hez] at q2
    obtain rfl := Option.some.inj q2
    injection c2 with c2
    exact absurd c2 (by decide)
theorem turn_enumT {P : Program} {w : World} {K : PySem.W.Frag} {elts : List Expr} {kk : Nat} {tpos : Pos} (a e it : Addr) :
    Turn P w K (.Tuple elts kk tpos) (IteT K a) [e, it] e (fun i h => (∃ oldz, IsEnum h e it ((i : Nat) : Int) oldz) ∧ h.IsTupleIter it a i ∧ e ≠ it) where
  mem := by simp
  obj := fun i h st b hb => by
    obtain ⟨⟨oldz, hez⟩, ⟨o, hoz, hc, hdz⟩, _⟩ := st
    have hb' : b = e ∨ b = it := by simpa using hb
    rcases hb' with rfl | rfl
    · exact ⟨_, hez, fun v q => nomatch q⟩
    · exact ⟨o, hoz, fun v q => by rw [hdz] at q; cases q⟩
  keep := fun i h h' st k => by
    obtain ⟨⟨oldz, hez⟩, hi, hne⟩ := st
    exact ⟨⟨oldz, k e (by simp) _ hez⟩, hi.at fun o q => k it (by simp) o q, hne⟩
  item := by
    intro X hP hw hK hc i pins s σ H E I hfz st hgz
    subst hP hw hK
    obtain ⟨⟨oldz, hez⟩, hitz, hne⟩ := st
    obtain ⟨xs, x, hqz, hxz⟩ := hgz
    obtain ⟨itz, rvz, p, hzz⟩ := I.tuple hqz
    obtain ⟨u, hu, ru⟩ := rvz.get hxz
    have hel : e < s.heap.objs.size := Heap.lt_size hez
    have hil : it < s.heap.objs.size := by
      obtain ⟨_, q, _⟩ := hitz
      exact Heap.lt_size q
    have ht : s.heap.IsTuple a itz.toArray := p
    obtain ⟨n1, n2⟩ := apart hez hitz ht
    have hiz : i < itz.toArray.size := by
      have := (List.getElem?_eq_some_iff.mp hu).1
      simpa using this
    have D := Draws.tuple (prog := X.prog) (w := X.w) (A := X.A.in1) (I.ok.hd hc) it a n1 itz.toArray
    refine wpAny_pyNext_enum_itemD D hez ⟨hitz, ht⟩ hiz hne (by simp [n2, hne]) fun y h' tk py hoz st' hT hsz hk => ?_
    have ey : y = u := by
      have ez1 : itz[i]? = some y := by simpa using py
      rw [hu] at ez1
      exact (Option.some.inj ez1).symm
    subst ey
    refine ⟨_, rfl, wpAny_letOwnedTupleGo_enum (s := { s with heap := h', toks := tk + 1 }) hoz fun h'' he' sb => ?_⟩
    have hT2 : h''.get? s.heap.objs.size = some { cls := .type "tuple", data := .seq #[.int i tk, y] } := (sb.2 _ (Nat.ne_of_gt hel)).trans hT
    have new : ObjOk X.prog X.w (upd H s.heap.objs.size (.tup [.int (i : Nat), x])) h'' s.heap.objs.size (.tup [.int (i : Nat), x]) :=
      ⟨by show 2 ≤ sizeLine; decide, [.int i tk, y], .cons ⟨_, rfl⟩ (.cons ru .nil), ⟨_, hT2, rfl, _, rfl⟩⟩
    have Iz1 : Inv X pins σ (upd H s.heap.objs.size (.tup [.int (i : Nat), x])) { s with heap := h'', toks := tk + 1 } :=
      I.turnedNew (ch := [e, it]) (fun b ob hb q => (sb.2 b (fun z => hb (by simp [z]))).trans (hk b ob (fun z => hb (by simp [z])) (fun z => hb (by simp [z])) q)) hfz (Nat.le_refl _) new
    refine ⟨.ref s.heap.objs.size, _, Iz1, rfl, ⟨_, x, rfl, I.hok.fresh (Nat.le_refl _), rfl, fun ys hy => by rw [I.tuple_inj hy hqz]; exact hxz⟩, ⟨⟨y, ?_⟩, st'.1.at fun o q => (sb.2 it (Ne.symm hne)).trans q, hne⟩, fun b hb => ?_⟩
    · rw [show ((i + 1 : Nat) : Int) = (i : Int) + 1 by omega]
      exact he'
    · have hb' : b < s.heap.objs.size := by
        have q : b = e ∨ b = it := by simpa using hb
        rcases q with rfl | rfl
        · exact hel
        · exact hil
      rw [upd_ne (Nat.ne_of_lt hb')]
      exact (hfz b hb).1
  done := by
    intro X hP hw hK hc i pins s σ H E I hfz st hgz
    subst hP hw hK
    obtain ⟨⟨oldz, hez⟩, hitz, hne⟩ := st
    obtain ⟨xs, hqz, hxz⟩ := hgz
    obtain ⟨itz, rvz, p, hzz⟩ := I.tuple hqz
    obtain ⟨f0, f1, f2, f3, f4, f5⟩ := hfz it (by simp)
    have hlz0 := rvz.length
    have ht : s.heap.IsTuple a itz.toArray := p
    obtain ⟨n1, n2⟩ := apart hez hitz ht
    have D := Draws.tuple (prog := X.prog) (w := X.w) (A := X.A.in1) (I.ok.hd hc) it a n1 itz.toArray
    have ez : i = itz.toArray.size := by
      rw [List.size_toArray, ← hlz0, hxz]
    rw [ez] at hez hitz
    exact wpAny_pyNext_enum_endD D hez ⟨hitz, ht⟩ fun h' eb => ⟨rfl, I.turned (t' := s.toks) (fun b o hb e => eb b o hb e) f0 f1 f3 f4 f5⟩
  self := fun A i s Q E st h => by
    obtain ⟨⟨_, hez⟩, _⟩ := st
    exact wpAny_pyIter_enum hez h
def iEnumT (K : PySem.W.Frag) (ta : TA) : TI := fun σ H R => ta σ H fun vs H1 => ∃ a xs, vs = [.ref a] ∧ SqT K H1 a xs ∧ R (IteT K a) H1
theorem walk_enumT {K : PySem.W.Frag} {a : Addr} {xs : List V} : Walk (IteT K a) xs.length (fun H => SqT K H a xs) (YPair (fun i => some (.int (i : Nat))) (fun i => xs[i]?)) where
  goes := fun i H hi h => ⟨xs, xs[i], h, List.getElem?_eq_getElem hi⟩
  stops := fun H h => ⟨xs, h, rfl⟩
  yields := fun i H x H' hi h y => by
    obtain ⟨T, x, ez1, ez2, e3, e4⟩ := y
    exact ⟨T, _, x, ez1, ez2, e3, rfl, e4 xs h⟩
theorem pi_enumT {X : Cx} {e : Expr} {ta : TA} {p pos tpos : Pos} {elts : List Expr} {kk : Nat} (hgz : Gl X "enumerate") (hmz : X.mg "enumerate" = none) (haz : PA X [e] ta) (hsv0 : starEach [e] X.env = [(false, eval e X.env)] := by rfl) :
    PI X (.Tuple elts kk tpos) (.Call (.Name "enumerate" p) [e] [] pos) (iEnumT X.K ta) := by
  refine ⟨fun pins s σ H R I h => ?_⟩
  refine Call_ (ld_blt I hgz hmz boot_enumerate (PyProof.Rows.callWith_type1 (thn (haz.run pos pins s σ H _ I h) fun us s1 ⟨vs, H1, Iz1, r1, q1⟩ => ?_) hsv0 rfl))
  obtain ⟨a, xs, rfl, hqz, q⟩ := q1
  obtain ⟨u, rfl, ru⟩ := vals1 r1
  obtain rfl : u = Value.ref a := ru
  obtain ⟨itz, rvz, p', hzz⟩ := Iz1.tuple hqz
  have ht : s1.heap.IsTuple a itz.toArray := p'
  refine call_enum1 (begins_tuple a itz.toArray) ht fun h' hez hoz hk => wpAny_pyIter_enum hez ?_
  have Iz2 : Inv X pins σ H1 { s1 with heap := h' } := Iz1.kept (t' := s1.toks) hk
  refine ⟨s1.heap.objs.size + 1, [s1.heap.objs.size + 1, s1.heap.objs.size], _, _, H1, rfl, Iz2, turn_enumT a (s1.heap.objs.size + 1) s1.heap.objs.size, ⟨⟨.none, hez⟩, ⟨_, hoz, rfl, rfl⟩, Nat.succ_ne_self _⟩, fun b hb => ?_, q⟩
  have hb' : b = s1.heap.objs.size + 1 ∨ b = s1.heap.objs.size := by simpa using hb
  have hle : s1.heap.objs.size ≤ b := by
    rcases hb' with rfl | rfl
    · exact Nat.le_add_right _ _
    · exact Nat.le_refl _
  exact Iz1.fpOk hle (Iz1.hok.fresh hle)
end GG

set_option maxHeartbeats 3999999
/-! zip of a list and a tuple; dict(enumerate(t)) -/
namespace GG
open PySem PySem.Spec PyProof.Rows L2
/-- the list at a beside the tuple at c, in new pairs -/
def ItzLT (K : PySem.W.Frag) (a c : Addr) : It where
  go := fun i H => ∃ (xs ys : List V) (x y : V), SqL K H a xs ∧ SqT K H c ys ∧ xs[i]? = some x ∧ ys[i]? = some y
  yld := fun i H v H' => ∃ T x y, v = .ref T ∧ H T = none ∧ H' = upd H T (.tup [x, y]) ∧ (∀ xs, SqL K H a xs → xs[i]? = some x) ∧ ∀ ys, SqT K H c ys → ys[i]? = some y
  stop := fun i H => ∃ xs ys : List V, SqL K H a xs ∧ SqT K H c ys ∧ i = min xs.length ys.length
abbrev five (z TI TO i1 i2 : Addr) : List Addr := [z, TI, TO, i1, i2]
theorem mem_five {z TI TO i1 i2 m : Addr} (h : m ∈ five z TI TO i1 i2) : m = z ∨ m = TI ∨ m = TO ∨ m = i1 ∨ m = i2 := by simpa using h
theorem out_five {z TI TO i1 i2 m : Addr} (h : m ∉ five z TI TO i1 i2) : m ≠ z ∧ m ≠ TI ∧ m ≠ TO ∧ m ≠ i1 ∧ m ≠ i2 := by simpa using h
/-- an iterator is no tuple, no list, no zip .. : told by the class -/
theorem cls_apart {h : Heap} {a c : Addr} {o u : Obj} {T U : String} (ez1 : h.get? a = some o) (c1 : o.cls = .type T) (ez2 : h.get? c = some u) (c2 : u.cls = .type U) (d : T ≠ U) : a ≠ c := by
  rintro rfl
  rw [ez1] at ez2
  obtain rfl := Option.some.inj ez2
  rw [c1] at c2
  injection c2 with c2
  exact d c2
theorem turn_zipLT {P : Program} {w : World} {K : PySem.W.Frag} {elts : List Expr} {kk : Nat} {tpos : Pos} {a c z TI TO i1 i2 : Addr} (S : ZipSep2 z TI TO i1 i2 [i1, a] [i2, c]) :
    Turn P w K (.Tuple elts kk tpos) (ItzLT K a c) (five z TI TO i1 i2) z (fun i h => IsZip h z TI TO .none ∧ IsTupOf2 h TI (.ref i1) (.ref i2) ∧ (∃ p q, IsTupOf2 h TO p q) ∧ h.IsListIter i1 a i ∧ h.IsTupleIter i2 c i) where
  mem := by simp
  obj := fun i h st m hmz => by
    obtain ⟨g1, g2, ⟨p, q, g3⟩, ⟨o1, ez1, _, d1⟩, ⟨o2, ez2, _, d2⟩⟩ := st
    rcases mem_five hmz with j | j | j | j | j <;> subst j
    · exact ⟨_, g1, nofun⟩
    · exact ⟨_, g2, nofun⟩
    · exact ⟨_, g3, nofun⟩
    · refine ⟨o1, ez1, fun v j => ?_⟩
      rw [d1] at j
      cases j
    · refine ⟨o2, ez2, fun v j => ?_⟩
      rw [d2] at j
      cases j
  keep := fun i h h' st k => by
    obtain ⟨g1, g2, ⟨p, q, g3⟩, j1, j2⟩ := st
    have kz := k z (by simp)
    have kI := k TI (by simp)
    have kO := k TO (by simp)
    exact ⟨kz _ g1, kI _ g2, ⟨p, q, kO _ g3⟩, j1.at (fun o => k i1 (by simp) o), j2.at (fun o => k i2 (by simp) o)⟩
  item := by
    intro X hP hw hK hc i pins s σ H E I hfz st hgz
    subst hP hw hK
    obtain ⟨g1, g2, ⟨p0, q0, g3⟩, j1, j2⟩ := st
    obtain ⟨xs, ys, x, y, hxz, hy, ex, ey⟩ := hgz
    obtain ⟨itz, rvz, plz, _⟩ := I.list hxz
    obtain ⟨itz2, rv2, pt, _⟩ := I.tuple hy
    obtain ⟨u, hu, ru⟩ := rvz.get ex
    obtain ⟨u2, hu2, ru2⟩ := rv2.get ey
    have lz : z < s.heap.objs.size := Heap.lt_size g1
    have hD := I.ok.hd hc
    have D1 := Draws.list (prog := X.prog) (w := X.w) (A := X.A.in1) hD i1 a (fun q => by
      have := S.sep1_2
      obtain ⟨o1, ez1, c1, _⟩ := id j1
      obtain ⟨o2, n2, ez2, c2, _⟩ := id plz
      exact cls_apart ez2 c2 ez1 c1 (by decide) q) itz.toArray
    have D2 := Draws.tuple (prog := X.prog) (w := X.w) (A := X.A.in1) hD i2 c (fun q => by
      obtain ⟨o1, ez1, c1, _⟩ := id j2
      obtain ⟨o2, ez2, c2, _⟩ := id (show s.heap.IsTuple c itz2.toArray from pt)
      exact cls_apart ez2 c2 ez1 c1 (by decide) q) itz2.toArray
    have b1 : i < itz.toArray.size := by simpa using (List.getElem?_eq_some_iff.mp hu).1
    have b2 : i < itz2.toArray.size := by simpa using (List.getElem?_eq_some_iff.mp hu2).1
    refine wpAny_pyNext_zipD2_item S D1 D2 g1 g2 g3 ⟨j1, plz.isList⟩ ⟨j2, pt⟩ b1 b2 fun v1 v2 h' tk w1 w2 k1 k2 s1 s2 hT hsz hk => ?_
    obtain rfl : v1 = u := by
      have e := (show itz[i]? = some v1 by simpa using w1)
      rw [hu] at e
      exact (Option.some.inj e).symm
    obtain rfl : v2 = u2 := by
      have e := (show itz2[i]? = some v2 by simpa using w2)
      rw [hu2] at e
      exact (Option.some.inj e).symm
    refine ⟨_, rfl, wpAny_letOwnedTupleGo_zip (s := { s with heap := h', toks := tk }) k1 fun h'' k1' sb => ?_⟩
    have hT2 : h''.get? s.heap.objs.size = some { cls := .type "tuple", data := .seq #[v1, v2] } := (sb.2 _ (Nat.ne_of_gt lz)).trans hT
    have new : ObjOk X.prog X.w (upd H s.heap.objs.size (.tup [x, y])) h'' s.heap.objs.size (.tup [x, y]) :=
      ⟨(by decide : 2 ≤ sizeLine), _, .cons ru (.cons ru2 .nil), _, hT2, rfl, _, rfl⟩
    have Iz1 : Inv X pins σ (upd H s.heap.objs.size (.tup [x, y])) { s with heap := h'', toks := tk } := by
      refine I.turnedNew (ch := five z TI TO i1 i2) (fun m o hmz q => ?_) hfz (Nat.le_refl _) new
      obtain ⟨n1, n2, n3, n4, n5⟩ := out_five hmz
      exact (sb.2 m n1).trans (hk m o n1 n3 n4 n5 q)
    refine ⟨.ref s.heap.objs.size, _, Iz1, rfl, ⟨_, x, y, rfl, I.hok.fresh (Nat.le_refl _), rfl, fun l hlz0 => ?_, fun l hlz0 => ?_⟩, ⟨k1', ?_, ⟨v1, v2, ?_⟩, ?_, ?_⟩, fun m hmz => ?_⟩
    · rw [I.list_inj hlz0 hxz]
      exact ex
    · rw [I.tuple_inj hlz0 hy]
      exact ey
    · exact (sb.2 _ S.TIz).trans (hk _ _ S.TIz S.TITO S.TIi1 S.TIi2 g2)
    · exact (sb.2 _ S.TOz).trans k2
    · exact s1.1.at fun o q => (sb.2 _ S.zi1.symm).trans q
    · exact s2.1.at fun o q => (sb.2 _ S.zi2.symm).trans q
    · have lt : m < s.heap.objs.size := by
        obtain ⟨_, f1, _⟩ := j1
        obtain ⟨_, f2, _⟩ := j2
        rcases mem_five hmz with j | j | j | j | j <;> subst j
        · exact lz
        · exact Heap.lt_size g2
        · exact Heap.lt_size g3
        · exact Heap.lt_size f1
        · exact Heap.lt_size f2
      rw [upd_ne (Nat.ne_of_lt lt)]
      exact (hfz m hmz).1
  done := by
    intro X hP hw hK hc i pins s σ H E I hfz st hgz
    subst hP hw hK
    obtain ⟨g1, g2, ⟨p0, q0, g3⟩, j1, j2⟩ := st
    obtain ⟨xs, ys, hxz, hy, hi⟩ := hgz
    obtain ⟨itz, rvz, plz, _⟩ := I.list hxz
    obtain ⟨itz2, rv2, pt, _⟩ := I.tuple hy
    have l1 := rvz.length
    have l2 := rv2.length
    have hD := I.ok.hd hc
    have D1 := Draws.list (prog := X.prog) (w := X.w) (A := X.A.in1) hD i1 a (fun q => by
      obtain ⟨o1, ez1, c1, _⟩ := id j1
      obtain ⟨o2, n2, ez2, c2, _⟩ := id plz
      exact cls_apart ez2 c2 ez1 c1 (by decide) q) itz.toArray
    have D2 := Draws.tuple (prog := X.prog) (w := X.w) (A := X.A.in1) hD i2 c (fun q => by
      obtain ⟨o1, ez1, c1, _⟩ := id j2
      obtain ⟨o2, ez2, c2, _⟩ := id (show s.heap.IsTuple c itz2.toArray from pt)
      exact cls_apart ez2 c2 ez1 c1 (by decide) q) itz2.toArray
    have z1 : itz.toArray.size = xs.length := by rw [List.size_toArray, l1]
    have z2 : itz2.toArray.size = ys.length := by rw [List.size_toArray, l2]
    refine wpAny_pyNext_zipD2_end S D1 D2 g1 g2 g3 ⟨j1, plz.isList⟩ ⟨j2, pt⟩ (by omega) (by omega) (by omega) fun h' tk hk => ⟨rfl, ?_⟩
    refine I.turnedL (t' := tk) (ch := five z TI TO i1 i2) (fun m o hmz q => ?_) hfz
    obtain ⟨n1, n2, n3, n4, n5⟩ := out_five hmz
    exact hk m o n1 n3 n4 n5 q
  self := fun A i s Q E st h => wpAny_pyIter_zip st.1 h
def iZipLT (K : PySem.W.Frag) (ta : TA) : TI := fun σ H R => ta σ H fun vs H1 => ∃ a c xs ys, vs = [.ref a, .ref c] ∧ SqL K H1 a xs ∧ SqT K H1 c ys ∧ R (ItzLT K a c) H1
theorem walk_zipLT {K : PySem.W.Frag} {a c : Addr} {xs ys : List V} {n : Nat} (hnz : n = min xs.length ys.length) : Walk (ItzLT K a c) n (fun H => SqL K H a xs ∧ SqT K H c ys) (YPair (fun i => xs[i]?) (fun i => ys[i]?)) where
  goes := fun i H hi h => ⟨xs, ys, xs[i]'(by omega), ys[i]'(by omega), h.1, h.2, List.getElem?_eq_getElem _, List.getElem?_eq_getElem _⟩
  stops := fun H h => ⟨xs, ys, h.1, h.2, hnz⟩
  yields := fun i H v H' hi h y => by
    obtain ⟨T, p, q, ez1, ez2, e3, e4, e5⟩ := y
    exact ⟨T, p, q, ez1, ez2, e3, e4 xs h.1, e5 ys h.2⟩
theorem pi_zipLT {X : Cx} {e ez2 : Expr} {ta : TA} {p pos tpos : Pos} {elts : List Expr} {kk : Nat} (hgz : Gl X "zip") (hmz : X.mg "zip" = none) (haz : PA X [e, ez2] ta)
    (st : starEach [e, ez2] X.env = (false, eval e X.env) :: starEach [ez2] X.env := by rfl) (np : (backTo pos (starEach [ez2] X.env)).any (·.1) = false := by rfl) :
    PI X (.Tuple elts kk tpos) (.Call (.Name "zip" p) [e, ez2] [] pos) (iZipLT X.K ta) := by
  constructor
  intro pins s σ H R I h
  refine Call_ (ld_blt I hgz hmz boot_zip (PyProof.Rows.callWith_type1 (thn (haz.run pos pins s σ H _ I h) ?_) st np))
  rintro us s1 ⟨vs, H1, Iz1, r1, a, c, xs, ys, rfl, hxz, hy, q⟩
  obtain ⟨u1, u2, rfl, r, r'⟩ := vals2 r1
  cases r
  cases r'
  obtain ⟨itz, rvz, plz, _⟩ := Iz1.list hxz
  obtain ⟨itz2, rv2, pt, _⟩ := Iz1.tuple hy
  have la : a < s1.heap.objs.size := plz.lt
  have lc : c < s1.heap.objs.size := by
    obtain ⟨o, hoz, _⟩ := id (show s1.heap.IsTuple c itz2.toArray from pt)
    exact Heap.lt_size hoz
  refine zip_begins2 (begins_list a itz.toArray) (begins_tuple c itz2.toArray) plz.isList pt fun h' g1 g2 g3 k1 k2 hsz hk => wpAny_pyIter_zip g1 ?_
  have Iz2 : Inv X pins σ H1 { s1 with heap := h' } := Iz1.kept (t' := s1.toks) hk
  have S := zip_sep2 (N := s1.heap.objs.size) (fp1 := [a]) (fp2 := [c]) (by simpa using la) (by simpa using lc)
  refine ⟨_, five (s1.heap.objs.size + 4) (s1.heap.objs.size + 2) (s1.heap.objs.size + 3) s1.heap.objs.size (s1.heap.objs.size + 1), _, _, H1, rfl, Iz2, turn_zipLT S, ⟨g1, g2, ⟨_, _, g3⟩, ⟨_, k1, rfl, rfl⟩, ⟨_, k2, rfl, rfl⟩⟩, fun m hmz => ?_, q⟩
  have le : s1.heap.objs.size ≤ m := by
    rcases mem_five hmz with j | j | j | j | j <;> rw [j] <;> first | exact Nat.le_add_right _ _ | exact Nat.le_refl _
  exact Iz1.fpOk le (Iz1.hok.fresh le)
end GG
namespace GG
open PySem PySem.Spec PyProof.Rows L2
/-! ### dict(enumerate(t)) -/
section
variable {prog : Program} {w : World} {A : Around} {E : Value → Shared → Prop} {s : Shared} {e it T : Addr} {fp : List Addr} {n i : Nat} {P : Nat → Value → Prop} {St : Nat → Heap → Prop} {oldz : Value} {f : Bool} {oT : Obj}
/-- next while the pair that was handed out is still there, over what draws in any way -/
theorem enum_again {Q : Option Value → Shared → Prop} (D : Draws prog w A.in1 it fp n P St) (hez : IsEnumHeld s.heap e it i oldz T f) (hT : s.heap.get? T = some oT) (n1 : T ≠ e) (n2 : T ≠ it) (st : St i s.heap) (lt : i < n) (n3 : e ≠ it) (n4 : e ∉ fp)
    (k : ∀ y h' tk, P i y → IsEnumHeld h' e it ((i : Int) + 1) oldz T true → St (i + 1) h' → h'.get? s.heap.objs.size = some { cls := .type "tuple", data := .seq #[.int i tk, y] } →
      (∀ b o, b ≠ e → b ≠ it → s.heap.get? b = some o → h'.get? b = some o) → Q (some (.ref s.heap.objs.size)) { s with heap := h', toks := tk + 1 }) :
    wpAny (model prog w) A (pyNext (.ref e)) Q E s := by
  have ty : s.TypeIs (.ref e) "enumerate" := ⟨_, hez, rfl⟩
  unfold pyNext
  refine wpAny_bind (wpAny_attempt (wpAny_callSpecial?_slot (name := Str.ofString "__next__") ty F.slot_enumerate_next (wpAny_call_entry F.slot_enumerate_next ty F.entry_enumerate_next ?_ (F.args_enumerate_next_1 _))))
  obtain ⟨hpz, gs, dr, tk0, os⟩ := s
  have el : e < hpz.objs.size := Heap.lt_size hez
  show wpAny _ _ (bind (field (.ref e) 2) _) _ _ _
  refine wpAny_bind (wpAny_field hez rfl (x := .ref it) rfl ?_)
  refine wpAny_bind (D.item i _ _ _ lt st fun y a1 tk py saz b1 => ?_)
  have b1 : Heap.SameBut it hpz a1 := b1
  have c1 : IsEnumHeld a1 e it i oldz T f := (b1.2 e n3).trans hez
  show wpAny _ _ (bind (field (.ref e) 3) _) _ _ _
  refine wpAny_bind (wpAny_field c1 rfl (x := rawInt i) rfl ?_)
  show wpAny _ _ (bind (field (.ref e) 4) _) _ _ _
  refine wpAny_bind (wpAny_field c1 rfl (x := .none) rfl ?_)
  show wpAny _ _ (bind (mkInt i) _) _ _ _
  refine wpAny_bind (wpAny_mkInt ?_)
  show wpAny _ _ (bind (setField (.ref e) 3 (rawInt ((i : Int) + 1))) _) _ _ _
  refine wpAny_bind (wpAny_setField_rec c1 (by simp) fun a2 c2 b2 => ?_)
  have b2 : Heap.SameBut e a1 a2 := b2
  have c2 : IsEnumHeld a2 e it ((i : Int) + 1) oldz T f := c2
  show wpAny _ _ (bind (setField (.ref e) 4 .none) _) _ _ _
  refine wpAny_bind (wpAny_setField_rec c2 (by simp) fun a3 c3 b3 => ?_)
  have b3 : Heap.SameBut e a2 a3 := b3
  have c3 : IsEnumHeld a3 e it ((i : Int) + 1) oldz T f := c3
  show wpAny _ _ (bind (newTuple [.int i tk, y]) _) _ _ _
  refine wpAny_bind (wpAny_newTuple ?_)
  have zs : a3.objs.size = hpz.objs.size := by rw [b3.1, b2.1, b1.1]
  let a4 := a3.push { cls := .type "tuple", data := .seq #[.int i tk, y] }
  have c4 : IsEnumHeld a4 e it ((i : Int) + 1) oldz T f := Heap.get?_push_of_some _ c3
  have t4 : a4.get? hpz.objs.size = some { cls := .type "tuple", data := .seq #[.int i tk, y] } := by
    rw [← zs]
    exact Heap.get?_push_size _ rfl
  have k4 : ∀ b o, b ≠ e → b ≠ it → hpz.get? b = some o → a4.get? b = some o := fun b o m1 m2 q => Heap.get?_push_of_some _ (b3.extBut b o m1 (b2.extBut b o m1 (b1.extBut b o m2 q)))
  have s4 : St (i + 1) a4 := D.frame _ _ _ saz fun b hb o q => by
    have m : b ≠ e := fun z => n4 (z ▸ hb)
    exact Heap.get?_push_of_some _ (b3.extBut b o m (b2.extBut b o m q))
  show wpAny _ _ (bind (Builtin.SmallTypes.ownedTupleIsFree (.ref e)) _) _ _ _
  refine wpAny_bind (wpAny_tupleHeld_enum (s := ⟨a4, gs, dr, tk + 1, os⟩) c4 (k4 T oT n1 n2 hT) fun a5 c5 b5 => ?_)
  have b5 : Heap.SameBut e a4 a5 := b5
  have ez : Value.ref a3.objs.size = Value.ref hpz.objs.size := by rw [zs]
  simp only [Bool.false_eq_true, if_false]
  refine wpAny_pure ⟨_, rfl, wpAny_pure ?_⟩
  rw [ez]
  refine k y a5 tk py c5 (D.frame _ _ _ s4 fun b hb o q => b5.extBut b o (fun z => n4 (z ▸ hb)) q) (b5.extBut _ _ (Nat.ne_of_gt el) t4) fun b o m1 m2 q => b5.extBut b o m1 (k4 b o m1 m2 q)
theorem enum_last {Q : Option Value → Shared → Prop} {x : Value} {j : Int} {oe : Obj} {fs : Array Value} (D : Draws prog w A.in1 it fp n P St) (hez : s.heap.get? e = some oe) (hc : oe.cls = .type "enumerate") (hdz : oe.data = .fields fs) (h2 : fs[2]? = some (.ref it)) (st : St n s.heap)
    (k : ∀ h', Heap.ExtBut it s.heap h' → Q none { s with heap := h' }) : wpAny (model prog w) A (pyNext (.ref e)) Q E s := by
  have ty : s.TypeIs (.ref e) "enumerate" := ⟨_, hez, hc⟩
  unfold pyNext
  refine wpAny_bind (wpAny_attempt (wpAny_callSpecial?_slot (name := Str.ofString "__next__") ty F.slot_enumerate_next (wpAny_call_entry F.slot_enumerate_next ty F.entry_enumerate_next ?_ (F.args_enumerate_next_1 _))))
  show wpAny _ _ (bind (field (.ref e) 2) _) _ _ _
  refine wpAny_bind (wpAny_field hez hdz h2 ?_)
  refine wpAny_bind (D.done s _ _ st fun h' x b1 b2 => ?_)
  obtain ⟨o, hoz, co⟩ := b2
  exact wpAny_bind (wpAny_isInstance (T := "StopIteration") (b := true) ⟨o, hoz, co⟩ isSubtype_stop (wpAny_pure (k _ b1)))
end
end GG

set_option maxHeartbeats 3999999
namespace GG
open PySem PySem.Spec PyProof.Rows L2
/-! ### dict(enumerate(t)), list(d.values()) -/
section
variable {prog : Program} {w : World}
theorem enumT_arg (e it l : Addr) (n1 : e ≠ it) (n2 : l ≠ e) (n3 : l ≠ it) (items : Array Value) :
    PairArg prog w "enumerate" e [e, it, l] [e, it] items.size (fun i k v => (∃ t, k = .int i t) ∧ items[i]? = some v) (fun h => (∃ oldz, IsEnum h e it 0 oldz) ∧ h.IsTupleIter it l 0 ∧ h.IsTuple l items) where
  type := fun s ok => by
    obtain ⟨⟨_, g⟩, _⟩ := ok
    exact ⟨_, g, rfl⟩
  notDict := by decide
  keep := fun h h' ok k => by
    obtain ⟨⟨oldz, g⟩, g1, g2⟩ := ok
    exact ⟨⟨oldz, k _ _ g⟩, g1.at (fun o q => k _ o q), Heap.IsTuple.at g2 (fun o q => k _ o q)⟩
  there := fun h ok b hb => by
    obtain ⟨⟨oldz, g⟩, ⟨o1, g1, _⟩, ⟨o2, g2, _⟩⟩ := ok
    have hb : b = e ∨ b = it ∨ b = l := by simpa using hb
    rcases hb with rfl | rfl | rfl
    · exact ⟨_, g⟩
    · exact ⟨_, g1⟩
    · exact ⟨_, g2⟩
  sub := fun b hb => by
    have hb : b = e ∨ b = it := by simpa using hb
    rcases hb with rfl | rfl <;> simp
  noKeys := fun A s Q E hAz ok h => by
    obtain ⟨⟨_, g⟩, _⟩ := ok
    exact getAttrOr_miss_enumerate g rfl rfl rfl enumerate_no_keys (by decide +kernel) hAz h
  iter := fun A s d Q E hAz ok hdz hdf h => by
    obtain ⟨⟨oldz, g⟩, g1, g2⟩ := ok
    have hdf : d ≠ e ∧ d ≠ it ∧ d ≠ l := by simpa using hdf
    obtain ⟨d1, d2, d3⟩ := hdf
    have D := Draws.tuple (prog := prog) (w := w) (A := A.in1) hAz it l n3 items
    refine wpAny_pyIter_enum g (h e [e, it] (fun i h => (h.IsTupleIter it l i ∧ h.IsTuple l items) ∧ ((∃ oldz, IsEnum h e it i oldz) ∨ ∃ oldz T f oT, IsEnumHeld h e it i oldz T f ∧ h.get? T = some oT ∧ T ≠ e ∧ T ≠ it ∧ T ≠ d)) s.heap s.toks ?_
      ⟨⟨g1, g2⟩, .inl ⟨oldz, g⟩⟩ (fun _ _ q => q) fun b hb => .inl hb)
    refine ⟨?_, ?_, ?_, ?_⟩
    · intro hmz
      have hmz : d = e ∨ d = it := by simpa using hmz
      exact hmz.elim d1 d2
    · rintro i a b ⟨st, z⟩ k
      refine ⟨⟨st.1.at (fun o q => k _ o (Ne.symm d2) q), Heap.IsTuple.at st.2 (fun o q => k _ o (Ne.symm d3) q)⟩, ?_⟩
      rcases z with ⟨oldz, z⟩ | ⟨oldz, T, f, oT, z, zT, r1, r2, r3⟩
      · exact .inl ⟨oldz, k _ _ (Ne.symm d1) z⟩
      · exact .inr ⟨oldz, T, f, oT, k _ _ (Ne.symm d1) z, k _ _ r3 zT, r1, r2, r3⟩
    · rintro i s1 Q1 E1 hi ⟨st, z⟩ hds hQ
      have ei : ((i + 1 : Nat) : Int) = (i : Int) + 1 := by omega
      have nit : s1.heap.objs.size ≠ it := by
        obtain ⟨_, x, _⟩ := st.1
        exact Nat.ne_of_gt (Heap.lt_size x)
      rcases z with ⟨oldz, z⟩ | ⟨oldz, T, f, oT, z, zT, r1, r2, r3⟩
      · refine wpAny_pyNext_enum_itemD D z st hi n1 (by simp [n1, n2.symm]) fun y h' tk py hoz st' hT hsz hk => ?_
        refine hQ s1.heap.objs.size _ _ h' _ ⟨⟨_, rfl⟩, py⟩ (.inl ⟨_, hT, rfl, _, rfl⟩) ⟨st', .inr ⟨y, s1.heap.objs.size, false, _, ?_, hT, Nat.ne_of_gt (Heap.lt_size z), nit, Nat.ne_of_gt hds⟩⟩ fun b o hb x => ?_
        · rw [ei]
          exact hoz
        · have hb : b ≠ e ∧ b ≠ it := by simpa using hb
          exact hk b o hb.1 hb.2 x
      · refine enum_again D z zT r1 r2 st hi n1 (by simp [n1, n2.symm]) fun y h' tk py hoz st' hT hk => ?_
        refine hQ s1.heap.objs.size _ _ h' _ ⟨⟨_, rfl⟩, py⟩ (.inl ⟨_, hT, rfl, _, rfl⟩) ⟨st', .inr ⟨oldz, T, true, oT, ?_, hk _ _ r1 r2 zT, r1, r2, r3⟩⟩ fun b o hb x => ?_
        · rw [ei]
          exact hoz
        · have hb : b ≠ e ∧ b ≠ it := by simpa using hb
          exact hk b o hb.1 hb.2 x
    · rintro s1 Q1 E1 ⟨st, z⟩ hQ
      rcases z with ⟨oldz, z⟩ | ⟨oldz, T, f, oT, z, _⟩
      · refine enum_last (x := .none) (j := 0) D z rfl rfl rfl st fun h' x => hQ h' s1.toks fun b o hb q => x b o (fun y => hb (by simp [y])) q
      · refine enum_last (x := .none) (j := 0) D z rfl rfl rfl st fun h' x => hQ h' s1.toks fun b o hb q => x b o (fun y => hb (by simp [y])) q
end
/-- the pairs (0, x0), (1, x1), .. -/
def numK (xs : List V) : List (Key × V) := xs.mapIdx fun i x => ((.inl (i : Int) : Key), x)
theorem numK_kv : ∀ {xs : List V} {us : List Value} (f : Nat → Key), Vals xs us → KV (xs.mapIdx fun i x => (f i, x)) (us.mapIdx fun i u => (f i, u))
  | _, _, _, .nil => .nil
  | _, _, f, .cons r rs => by
    rw [List.mapIdx_cons, List.mapIdx_cons]
    exact .cons ⟨rfl, r⟩ (numK_kv (fun i => f (i + 1)) rs)
def tDictEnumT (K : PySem.W.Frag) (ta : TA) : TE := fun σ H Q => ta σ H fun vs H1 => ∃ a xs, vs = [.ref a] ∧ SqT K H1 a xs ∧ ∀ p, H1 p = none → Q (.ref p) (upd H1 p (.dK (mergeK [] (numK xs))))
theorem pe_dictEnumT {X : Cx} {e : Expr} {ta : TA} {p pos p2 pos2 : Pos} (hc : X.calm = true) (hgz : Gl X "dict") (hmz : X.mg "dict" = none) (hg2 : Gl X "enumerate") (hm2 : X.mg "enumerate" = none) (haz : PA X [e] ta)
    (hsv0 : starEach [e] X.env = [(false, eval e X.env)] := by rfl)
    (hs2 : starEach [.Call (.Name "enumerate" p2) [e] [] pos2] X.env = (false, eval (.Call (.Name "enumerate" p2) [e] [] pos2) X.env) :: starEach [] X.env := by rfl) (np : (backTo pos (starEach [] X.env)).any (·.1) = false := by rfl) :
    PE X (.Call (.Name "dict" p) [.Call (.Name "enumerate" p2) [e] [] pos2] [] pos) (tDictEnumT X.K ta) := by
  constructor
  intro pins s σ H Q I h
  refine wpAny_Call_Name_kw (ld_blt I hgz hmz boot_dict (PyProof.Rows.callWith_type1 ?_ hs2 np))
  rw [hs2]
  show wpAny _ _ (spliced ((false, eval (.Call (.Name "enumerate" p2) [e] [] pos2) X.env) :: backTo pos (starEach [] X.env))) _ _ s
  refine Calls.spliced_cons (wpAny_Call_Name_kw (ld_blt I hg2 hm2 boot_enumerate (PyProof.Rows.callWith_type1 (thn (haz.run pos2 pins s σ H _ I h) ?_) hsv0 rfl)))
  rintro us s1 ⟨vs, H1, Iz1, r1, a, xs, rfl, hqz, q⟩
  obtain ⟨u, rfl, ru⟩ := vals1 r1
  obtain rfl : u = Value.ref a := ru
  obtain ⟨itz, rvz, p', hzz⟩ := Iz1.tuple hqz
  have ht : s1.heap.IsTuple a itz.toArray := p'
  have la : a < s1.heap.objs.size := by
    obtain ⟨o, hoz, _⟩ := id ht
    exact Heap.lt_size hoz
  refine call_enum1 (begins_tuple a itz.toArray) ht fun h' hez hoz hk => Calls.spliced_nil ?_
  have Iz2 : Inv X pins σ H1 { s1 with heap := h' } := Iz1.kept (t' := s1.toks) hk
  have lh : s1.heap.objs.size + 1 < h'.objs.size := Heap.lt_size hez
  have hz' : itz.toArray.size ≤ sizeLine := by
    rw [List.size_toArray, ← rvz.length]
    exact hzz
  refine PySem.call_dict_pairs (s := { s1 with heap := h' }) (knd := mixKind X.prog X.w) (kvs := itz.mapIdx fun i u => ((.inl (i : Int) : Key), u)) (enumT_arg (s1.heap.objs.size + 1) s1.heap.objs.size a (Nat.succ_ne_self _) (Nat.ne_of_lt (Nat.lt_succ_of_lt la)) (Nat.ne_of_lt la) itz.toArray) (Iz1.ok.hd hc)
    ⟨⟨.none, hez⟩, ⟨_, hoz, rfl, rfl⟩, Heap.IsTuple.at ht (fun o q => hk _ o q)⟩ ⟨by simp, ?_⟩ hz' fun h'' tk hdz hk2 => ?_
  · rintro i k v ⟨⟨t, rfl⟩, ez2⟩
    have ez2 : itz[i]? = some v := by simpa using ez2
    refine ⟨.inl (i : Int), ?_, mixKind_int _ _ _ _⟩
    rw [List.getElem?_mapIdx, ez2]
    rfl
  · have hdz : h''.DictOf (mixKind X.prog X.w) h'.objs.size (merged [] (itz.mapIdx fun i u => ((.inl (i : Int) : Key), u))) := hdz
    have kv : KV (numK xs) (itz.mapIdx fun i u => ((.inl (i : Int) : Key), u)) := numK_kv (fun i => .inl (i : Int)) rvz
    have big := Iz2.big
    have hm' : (h'.objs.size == sysModules) = false := beq_eq_false_iff_ne.mpr (Nat.ne_of_gt big)
    have len : (mergeK [] (numK xs)).length ≤ sizeLine := by
      refine Nat.le_trans (length_mergeK (numK xs) []) ?_
      have ez1 : (numK xs).length = itz.length := by
        unfold numK
        rw [List.length_mapIdx, rvz.length]
      have ez2 : itz.toArray.size = itz.length := List.size_toArray
      rw [List.length_nil, Nat.zero_add, ez1, ← ez2]
      exact hz'
    have le : s1.heap.objs.size ≤ h'.objs.size := Nat.le_of_lt (Nat.lt_trans (Nat.lt_succ_self _) lh)
    have k3 : ∀ b o, s1.heap.get? b = some o → h''.get? b = some o := fun b o x => hk2 b o (fun z => by
      have z : b = s1.heap.objs.size + 1 ∨ b = s1.heap.objs.size := by simpa using z
      have lt : b < s1.heap.objs.size := Heap.lt_size x
      rcases z with z | z <;> rw [z] at lt
      · exact absurd lt (Nat.not_lt.mpr (Nat.le_succ _))
      · exact absurd lt (Nat.lt_irrefl _)) (hk b o x)
    exact ⟨.ref h'.objs.size, upd H1 h'.objs.size (.dK (mergeK [] (numK xs))), Iz1.laid (t' := tk) k3 le ⟨len, hm', _, KV.merge kv .nil, hdz⟩, rfl, q _ (Iz1.hok.fresh le)⟩
def tListVals (td : TE) : TE := fun σ H Q => td σ H fun x H1 => ∃ d kvs, x = .ref d ∧ Rd H1 d (.dK kvs) ∧ ∀ p, H1 p = none → Q (.ref p) (upd H1 p (.lst (kvs.map (·.2))))
theorem kv_vals {kvs : List (Key × V)} {rs : List (Key × Value)} (h : KV kvs rs) : Vals (kvs.map (·.2)) (rs.map (·.2)) := by
  unfold KV at h
  induction h with
  | nil => exact .nil
  | cons r _ ih => exact .cons r.2 ih
theorem pe_listVals {X : Cx} {e : Expr} {td : TE} {p pos apos cpos : Pos} (hc : X.calm = true) (hgz : Gl X "list") (hmz : X.mg "list" = none) (hez : PE X e td)
    (hb : attributeBase e "values" X.env (eval e X.env) = eval e X.env := by rfl) (hlz0 : (apos.endLine == cpos.line) = true := by rfl)
    (hsv0 : starEach [.Call (.Attribute e "values" apos) [] [] cpos] X.env = (false, eval (.Call (.Attribute e "values" apos) [] [] cpos) X.env) :: starEach [] X.env := by rfl) (np : (backTo pos (starEach [] X.env)).any (·.1) = false := by rfl) :
    PE X (.Call (.Name "list" p) [.Call (.Attribute e "values" apos) [] [] cpos] [] pos) (tListVals td) := by
  constructor
  intro pins s σ H Q I h
  refine wpAny_Call_Name_kw (ld_blt I hgz hmz boot_list (PyProof.Rows.callWith_type1 ?_ hsv0 np))
  rw [hsv0]
  show wpAny _ _ (spliced ((false, eval (.Call (.Attribute e "values" apos) [] [] cpos) X.env) :: backTo pos (starEach [] X.env))) _ _ s
  refine Calls.spliced_cons (wpAny_Call_method (T := "dict") (id := "dict.values") hb rfl hlz0 F.plainAttrs_dict F.slot_dict_values F.type_dict_values (thn (hez.run pins s σ H _ I h) ?_))
  rintro u s1 ⟨x, H1, Iz1, rxz, d, kvs, rfl, hdz, q⟩
  obtain rfl : u = Value.ref d := rxz
  obtain ⟨z, sm, vs, kv, dd⟩ := dk_rd Iz1.hok hdz
  obtain ⟨ep, da⟩ := dd.dictAt
  refine ⟨dd.typeIs, dd.mapOf.noDict, ?_⟩
  have Iz2 : Inv X pins σ H1 { s1 with heap := s1.heap.push { cls := .type "dict_values", data := .fields #[.ref d] } } := Iz1.kept (t' := s1.toks) fun b ob q => Heap.get?_push_of_some _ q
  refine method_meetsIn F.slot_dict_values F.entry_dict_values rfl (PySem.evalArgs_none ⟨rfl, dd.typeIs, F.args_dict_values_1 _, _, meets_dict_values (mixKind X.prog X.w) d sm, ⟨vs, dd⟩, ?_⟩)
  refine Calls.spliced_nil ?_
  refine PySem.W.kdl_call (s := { s1 with heap := s1.heap.push { cls := .type "dict_values", data := .fields #[.ref d] } }) (PySem.W.kdl_values (knd := mixKind X.prog X.w) (kvs := vs) (ep := ep)) (Iz1.ok.hd hc) ⟨⟨_, Heap.get?_push_size _ rfl, rfl, rfl⟩, da.push _⟩ (by rw [← Paired.length kv]; exact z) ?_
  intro h' tk acc c' hk hL hI
  have ea : acc.toList = vs.map (·.2) := PySem.W.kdl_vals_eq acc.toList (by rw [Array.length_toList]; exact hI.1) fun j v hj => hI.2 j v (by simpa using hj)
  have sz : (s1.heap.push { cls := .type "dict_values", data := .fields #[.ref d] }).objs.size = s1.heap.objs.size + 1 := Heap.size_push ..
  have hL : h'.get? (s1.heap.push { cls := .type "dict_values", data := .fields #[.ref d] }).objs.size = _ := hL
  rw [sz] at hL
  have eL : acc = (vs.map (·.2)).toArray := by rw [← ea]
  subst eL
  have ev : Value.ref (s1.heap.push { cls := .type "dict_values", data := .fields #[.ref d] }).objs.size = Value.ref (s1.heap.objs.size + 1) := by rw [sz]
  show EP X pins σ Q (Value.ref (s1.heap.push { cls := .type "dict_values", data := .fields #[.ref d] }).objs.size) _
  rw [ev]
  refine ⟨.ref (s1.heap.objs.size + 1), upd H1 (s1.heap.objs.size + 1) (.lst (kvs.map (·.2))), Iz1.laid (t' := tk) (fun b o x => hk b o (Heap.get?_push_of_some _ x)) (Nat.le_succ _) ?_, rfl, q _ (Iz1.hok.fresh (Nat.le_succ _))⟩
  exact ⟨by rw [List.length_map]; exact z, _, _, kv_vals kv, hL⟩
end GG

set_option maxHeartbeats 3999999
namespace GG
open PySem PySem.Spec PyProof.Rows L2
theorem Rm.make {k : Nat} {A : Around} (r : Rm (k + 1) A) (C : Addr) (us : List Value) : Rm k (A.under (.builtin "type.__call__" ⟨.ref C :: us, []⟩)) := ⟨r.room.make C us [], r.gu⟩
/-- C(): a new error object, itz __init__ keeping sp -/
def tErr0 (C : Addr) (sp : Sp) : TE := fun σ H Q => ∀ a, H a = none → sp [.ref a] (upd H a (exo a C none)) (fun v H2 => v = .non ∧ Q (.ref a) H2) fun _ _ _ => False
theorem pe_err0 {X : Cx} {CX : CXT} {x : Str} {C fI : Addr} {k : Nat} {fd : FuncData} {ps : List Str} {sp : Sp} {p pos : Pos} (T : OexC X.K C) (iC : PySem.W.findIn X.K (.ref C) "__init__" = some (some (.ref fI))) (tI : PySem.W.typeIn X.K (.ref fI) = some (.type "function"))
    (G : GFn X.prog X.w X.K X.mg X.base CX k fI fd ps sp) (rm : Rm (k + 1) X.A) (hb : Binds X.K fd ps []) (hxz : Passes CX X (fun _ _ _ => False)) (hgz : Gl X x) (hmz : X.mg x = some (.ref C)) (hdb : (x == ("__debug__" : Str)) = false := by decide) :
    PE X (.Call (.Name x p) [] [] pos) (tErr0 C sp) := by
  constructor
  intro pins s σ H Q I h
  obtain ⟨nm, q, N, bs, bm, sn, sub, ab, col, dd, k0, k1, k2, k3, k5, hC, hbm⟩ := T.cls
  refine wpAny_Call_Name_kw (ld_glob I hgz hmz ?_ hdb)
  refine PySem.W.callWith_K0 I.kIn T.kC ?_
  obtain ⟨hpz, g, dr, tk, os⟩ := s
  have le : hpz.objs.size ≤ hpz.objs.size + 1 := Nat.le_succ _
  have hnz : H (hpz.objs.size + 1) = none := I.hok.fresh le
  have hqz := h (hpz.objs.size + 1) hnz
  let h1 : Heap := (hpz.push (PySem.W.kdv_tup [])).push (PySem.HandSPX.excO C hpz.objs.size)
  have kk : ∀ b o, hpz.get? b = some o → h1.get? b = some o := fun b o e => Heap.get?_push_of_some _ (Heap.get?_push_of_some _ e)
  have hget : h1.get? (hpz.objs.size + 1) = some (PySem.HandSPX.excO C hpz.objs.size) := by
    show ((hpz.push (PySem.W.kdv_tup [])).push (PySem.HandSPX.excO C hpz.objs.size)).get? (hpz.objs.size + 1) = _
    heap_get
  have Iz2 : Inv X pins σ (upd H (hpz.objs.size + 1) (exo (hpz.objs.size + 1) C none)) ⟨h1, g, dr, tk, os⟩ := I.laid (t' := tk) kk le (exo_ok hget)
  have rr : Vals [V.ref (hpz.objs.size + 1)] [Value.ref (hpz.objs.size + 1)] := .cons rfl .nil
  have hlz0 : ([Value.ref (hpz.objs.size + 1)] ++ []).length = ps.length := by rw [← G.arity _ _ _ _ hqz]; rfl
  refine wpAny_call (PySem.HandSPX.call_own F.excBase_ValueError (fun Y => PySem.HandSPX.refsVE_contains Y bm hbm) (I.kIn _ _ hC) (PySem.W.looks_findIn I.kIn iC) (fun self => PySem.W.bind_fn I.kIn self tI) (by decide)
    (codeAny_mono (G.go _ X.stack ⟨h1, g, dr, tk, os⟩ _ ⟨[Value.ref (hpz.objs.size + 1)], []⟩ [Value.ref (hpz.objs.size + 1)] _ _ (fun _ _ _ => False) (rm.make C []) (Iz2.env0.make C [] []) (hb _ [Value.ref (hpz.objs.size + 1)] Iz2.kIn hlz0) rr hqz) fun r s' hq' => ?_))
  match r, hq' with
  | .error er, hq' => exact hxz pins σ _ _ er s' Iz2 hq'
  | .ok (.ret u), hq' =>
    obtain ⟨v, H', I3, rvz, ev, q3⟩ := Iz2.after hq'
    subst ev
    exact ⟨rvz, ⟨V.ref (hpz.objs.size + 1), H', I3, rfl, q3⟩⟩
  | .ok .next, hq' => exact hq'.elim
  | .ok .brk, hq' => exact hq'.elim
  | .ok .cont, hq' => exact hq'.elim
/-! ### a text times an int -/
def repS (x : Str) (n : Nat) : Str := ⟨(List.replicate n x.cps).foldl (· ++ ·) #[]⟩
def rRepS : R2 := fun x y H Q => ∃ (z : Str) (n : Nat), x = .str z ∧ y = .int (n : Int) ∧ 1 < n ∧ n < 2 ^ 30 ∧ z.length ≠ 0 ∧ z.length * n ≤ 2 ^ 20 ∧ Q (.str (repS z n)) H
theorem fold_size {α : Type} (x : Array α) : ∀ (n : Nat) (acc : Array α), ((List.replicate n x).foldl (· ++ ·) acc).size = acc.size + x.size * n
  | 0, acc => by simp
  | n + 1, acc => by
    rw [List.replicate_succ, List.foldl_cons, fold_size x n, Array.size_append, Nat.mul_succ]
    omega
theorem repS_len (z : Str) (n : Nat) : (repS z n).length = z.length * n := by
  show ((List.replicate n z.cps).foldl (· ++ ·) #[]).size = z.cps.size * n
  rw [fold_size]
  simp
theorem op_repS {X : Cx} : OpR X (binaryOp .Mult) rRepS := by
  intro pins s σ H x y v u Q I rxz ryz h
  obtain ⟨z, n, rfl, rfl, h1, h2, h3, h4, q⟩ := h
  obtain ⟨t, rfl⟩ := rxz
  obtain ⟨t', rfl⟩ := ryz
  have hsv0 : (2 ^ 20 : Nat) ≤ sizeLine := by rw [sizeLine_eq]; decide
  refine PySem.P.mul_str ?_ (fun _ _ => ?_) (fun _ _ => ?_) ?_
  · have ez1 : ¬ ((n : Int) < -(2 ^ 63 : Int)) := by omega
    have ez2 : ¬ ((n : Int) ≥ 2 ^ 63) := by omega
    rw [decide_eq_false ez1, decide_eq_false ez2]
    rfl
  · have e : (z.length : Int) ≤ (2 ^ 63 - 1) / (n : Int) := by
      rw [Int.le_ediv_iff_mul_le (by omega)]
      have : ((z.length * n : Nat) : Int) ≤ 2 ^ 20 := by exact_mod_cast h4
      rw [Int.natCast_mul] at this
      omega
    omega
  · rw [Int.toNat_natCast]
    show decide (z.length * n > sizeLine) = false
    exact decide_eq_false (by omega)
  · rw [if_neg (show ¬ ((n : Int) < 1) by omega)]
    have e : ((n : Int) == 1 || z.length == 0) = false := by
      have a1 : ((n : Int) == 1) = false := beq_eq_false_iff_ne.mpr (by omega)
      have a2 : (z.length == 0) = false := beq_eq_false_iff_ne.mpr h3
      rw [a1, a2]
      rfl
    rw [e, if_neg Bool.false_ne_true, Int.toNat_natCast]
    refine ⟨?_, .str (repS z n), H, I.tok _, ⟨_, rfl⟩, q⟩
    show (repS z n).length ≤ sizeLine
    rw [repS_len]
    omega
end GG

set_option maxHeartbeats 3999999
/-! data, mutable places, environments; what a reading is worth -/
namespace DD
open PySem PySem.Spec PyProof.Rows L2 GG
abbrev PD := PyData
abbrev LSt := L2.St

/-! ### data in a heap: tuples and lists as they are known -/
def keyD : Key → PyData
  | .inl i => .int i
  | .inr x => .str x
/-- what the written part says of a class of errors, so that isinstance asks itz instances rightly -/
structure ObjC (K : PySem.W.Frag) (C : Addr) : Prop where
  exc : ExcC K C
  nint : PySem.W.kitOne K (.ref C) (.type "int") = some false
  nbool : PySem.W.kitOne K (.ref C) (.type "bool") = some false
  nstr : PySem.W.kitOne K (.ref C) (.type "str") = some false
  nlist : PySem.W.kitOne K (.ref C) (.type "list") = some false
  ntuple : PySem.W.kitOne K (.ref C) (.type "tuple") = some false
  ndict : PySem.W.kitOne K (.ref C) (.type "dict") = some false
/-- an error object, as data: a dict that no program can make -/
def errP : List (PyData × PyData) := [(.none, .none)]
mutual
inductive Dq (K : PySem.W.Frag) (H : Hp) : V → PyData → Prop
  | non : Dq K H .non .none
  | bl (b : Bool) : Dq K H (.bl b) (.bool b)
  | int (i : Int) : Dq K H (.int i) (.int i)
  | str (x : Str) : Dq K H (.str x) (.str x)
  | lst {a : Addr} {vs : List V} {ds : List PyData} : SqL K H a vs → DqAll K H vs ds → Dq K H (.ref a) (.list ds)
  | tup {a : Addr} {vs : List V} {ds : List PyData} : TupD K H a vs → DqAll K H vs ds → Dq K H (.ref a) (.tuple ds)
  | dict {a : Addr} {kvs : List (Key × V)} {ds : List (PyData × PyData)} : Rd H a (.dK kvs) → DqKv K H kvs ds → Dq K H (.ref a) (.dict ds)
  | err {a C : Addr} {kvs : List (PyData × PyData)} : H a = some (exo a C none) → ObjC K C → kvs = errP → Dq K H (.ref a) (.dict kvs)
inductive DqAll (K : PySem.W.Frag) (H : Hp) : List V → List PyData → Prop
  | nil : DqAll K H [] []
  | cons {v : V} {vs : List V} {d : PyData} {ds : List PyData} : Dq K H v d → DqAll K H vs ds → DqAll K H (v :: vs) (d :: ds)
inductive DqKv (K : PySem.W.Frag) (H : Hp) : List (Key × V) → List (PyData × PyData) → Prop
  | nil : DqKv K H [] []
  | cons {k : Key} {v : V} {kvs : List (Key × V)} {d : PyData} {ds : List (PyData × PyData)} : Dq K H v d → DqKv K H kvs ds → DqKv K H ((k, v) :: kvs) ((keyD k, d) :: ds)
end
mutual
theorem dq_dp {K : PySem.W.Frag} {H : Hp} : ∀ (d : PyData) (v : V), Dq K H v d → d.hasDict = false → L2.Dp K H v d
  | .none, _, h, _ => by cases h; exact .non
  | .bool _, _, h, _ => by cases h; exact .bl _
  | .int _, _, h, _ => by cases h; exact .int _
  | .str _, _, h, _ => by cases h; exact .str _
  | .list ds, _, h, n => by
    cases h with
    | lst hsv0 haz => exact .lst hsv0 (dqAll_dp ds _ haz (by simpa only [PyData.hasDict] using n))
  | .tuple ds, _, h, n => by
    cases h with
    | tup hsv0 haz => exact .tup hsv0.sq (dqAll_dp ds _ haz (by simpa only [PyData.hasDict] using n))
  | .dict _, _, _, n => by simp [PyData.hasDict] at n
theorem dqAll_dp {K : PySem.W.Frag} {H : Hp} : ∀ (ds : List PyData) (vs : List V), DqAll K H vs ds → PyData.hasDictAll ds = false → L2.DpAll K H vs ds
  | [], _, h, _ => by cases h; exact .nil
  | d :: ds, _, h, n => by
    simp only [PyData.hasDictAll, Bool.or_eq_false_iff] at n
    cases h with
    | cons h1 h2 => exact .cons (dq_dp d _ h1 n.1) (dqAll_dp ds _ h2 n.2)
end
/-! no dict within -/
mutual
theorem noD_lay : ∀ d : PyData, d.canLay0 = true → d.hasDict = false
  | .none, _ => rfl
  | .bool _, _ => rfl
  | .int _, _ => rfl
  | .str _, _ => rfl
  | .list ds, h => by
    simp only [PyData.hasDict]
    exact noDs_lay ds (by simpa only [PyData.canLay0] using h)
  | .tuple ds, h => by
    simp only [PyData.hasDict]
    exact noDs_lay ds (by simpa only [PyData.canLay0] using h)
  | .dict _, h => by simp [PyData.canLay0] at h
theorem noDs_lay : ∀ ds : List PyData, PyData.canLayAll0 ds = true → PyData.hasDictAll ds = false
  | [], _ => rfl
  | d :: ds, h => by
    simp only [PyData.canLayAll0, Bool.and_eq_true] at h
    simp only [PyData.hasDictAll, noD_lay d h.1, noDs_lay ds h.2, Bool.or_self]
end
theorem noD_shaped {d : PyData} (h : SeqAt.shaped d = true) : d.hasDict = false := noD_lay d (SeqAt.canLay_of_shaped h)
theorem noDs {ds : List PyData} (h : ∀ d ∈ ds, d.hasDict = false) : PyData.hasDictAll ds = false := by
  induction ds with
  | nil => rfl
  | cons d ds ih => simp only [PyData.hasDictAll, h d List.mem_cons_self, ih fun x hxz => h x (List.mem_cons_of_mem _ hxz), Bool.or_self]
theorem rd_mono {H H' : Hp} (e : Same H H') {a : Addr} {u : HO} (r : Rd H a u) : Rd H' a u := by
  rcases r with r | ⟨o, r⟩
  · exact .inl (e _ _ r)
  · exact .inr ⟨o, e _ _ r⟩
mutual
theorem dp_mono {K : PySem.W.Frag} {H H' : Hp} (e : Same H H') : ∀ (d : PyData) (v : V), Dq K H v d → Dq K H' v d
  | .none, _, h => by cases h; exact .non
  | .bool _, _, h => by cases h; exact .bl _
  | .int _, _, h => by cases h; exact .int _
  | .str _, _, h => by cases h; exact .str _
  | .list ds, _, h => by
    cases h with
    | lst hsv0 haz => exact .lst (e.seq hsv0) (dpAll_mono e ds _ haz)
  | .tuple ds, _, h => by
    cases h with
    | tup hsv0 haz =>
      exact .tup (hsv0.mono e) (dpAll_mono e ds _ haz)
  | .dict ds, _, h => by
    cases h with
    | dict hr hk => exact .dict (rd_mono e hr) (dpKv_mono e ds _ hk)
    | err h1 h2 h3 => exact .err (e _ _ h1) h2 h3
theorem dpAll_mono {K : PySem.W.Frag} {H H' : Hp} (e : Same H H') : ∀ (ds : List PyData) (vs : List V), DqAll K H vs ds → DqAll K H' vs ds
  | [], _, h => by cases h; exact .nil
  | d :: ds, _, h => by
    cases h with
    | cons h1 h2 => exact .cons (dp_mono e d _ h1) (dpAll_mono e ds _ h2)
theorem dpKv_mono {K : PySem.W.Frag} {H H' : Hp} (e : Same H H') : ∀ (ds : List (PyData × PyData)) (kvs : List (Key × V)), DqKv K H kvs ds → DqKv K H' kvs ds
  | [], _, h => by cases h; exact .nil
  | (kd, d) :: ds, _, h => by
    cases h with
    | cons h1 h2 => exact .cons (dp_mono e d _ h1) (dpKv_mono e ds _ h2)
end
theorem dpAll_len {K : PySem.W.Frag} {H : Hp} : ∀ {ds : List PyData} {vs : List V}, DqAll K H vs ds → vs.length = ds.length
  | [], _, h => by cases h; rfl
  | d :: ds, _, h => by
    cases h with
    | cons h1 h2 => exact congrArg (· + 1) (dpAll_len h2)
theorem dpAll_get {K : PySem.W.Frag} {H : Hp} : ∀ {ds : List PyData} {vs : List V} {i : Nat} {v : V}, DqAll K H vs ds → vs[i]? = some v → ∃ d, ds[i]? = some d ∧ Dq K H v d
  | [], _, _, _, h, e => by cases h; simp at e
  | d :: ds, _, 0, v, h, e => by
    cases h with
    | cons h1 h2 =>
      obtain rfl := Option.some.inj e
      exact ⟨d, rfl, h1⟩
  | d :: ds, _, i + 1, v, h, e => by
    cases h with
    | cons h1 h2 => exact dpAll_get (ds := ds) (i := i) h2 e
theorem dpAll_get' {K : PySem.W.Frag} {H : Hp} : ∀ {ds : List PyData} {vs : List V} {i : Nat} {d : PyData}, DqAll K H vs ds → ds[i]? = some d → ∃ v, vs[i]? = some v ∧ Dq K H v d
  | [], _, _, _, h, e => by simp at e
  | d :: ds, _, 0, v, h, e => by
    cases h with
    | cons h1 h2 =>
      obtain rfl := Option.some.inj e
      exact ⟨_, rfl, h1⟩
  | d :: ds, _, i + 1, v, h, e => by
    cases h with
    | cons h1 h2 => exact dpAll_get' (ds := ds) (i := i) h2 e
theorem dpAll_app {K : PySem.W.Frag} {H : Hp} : ∀ {ds es : List PyData} {vs us : List V}, DqAll K H vs ds → DqAll K H us es → DqAll K H (vs ++ us) (ds ++ es)
  | [], _, _, _, h, g => by cases h; exact g
  | d :: ds, _, _, _, h, g => by
    cases h with
    | cons h1 h2 => exact .cons h1 (dpAll_app h2 g)
theorem dpAll_take {K : PySem.W.Frag} {H : Hp} : ∀ {ds : List PyData} {vs : List V} (n : Nat), DqAll K H vs ds → DqAll K H (vs.take n) (ds.take n)
  | _, _, 0, _ => by rw [List.take_zero, List.take_zero]; exact .nil
  | [], _, n + 1, h => by cases h; exact .nil
  | d :: ds, _, n + 1, h => by
    cases h with
    | cons h1 h2 => exact .cons h1 (dpAll_take n h2)
theorem dpAll_drop {K : PySem.W.Frag} {H : Hp} : ∀ {ds : List PyData} {vs : List V} (n : Nat), DqAll K H vs ds → DqAll K H (vs.drop n) (ds.drop n)
  | _, _, 0, h => h
  | [], _, n + 1, h => by cases h; exact .nil
  | d :: ds, _, n + 1, h => by
    cases h with
    | cons h1 h2 => exact dpAll_drop n h2

/-! ### the heap without what may change -/
open Classical in
noncomputable def Fz (M : Addr → Prop) (H : Hp) : Hp := fun a => if M a then none else H a
theorem fz_iff {M : Addr → Prop} {H : Hp} {a : Addr} {o : HO} : Fz M H a = some o ↔ ¬ M a ∧ H a = some o := by
  unfold Fz
  by_cases h : M a
  · rw [if_pos h]
    exact ⟨(fun e => by cases e), (fun e => (e.1 h).elim)⟩
  · rw [if_neg h]
    exact ⟨fun e => ⟨h, e⟩, fun e => e.2⟩
theorem fz_same {M M' : Addr → Prop} {H H' : Hp} (h : ∀ a o, ¬ M a → H a = some o → ¬ M' a ∧ H' a = some o) : Same (Fz M H) (Fz M' H') := fun a o e => by
  obtain ⟨ez1, ez2⟩ := fz_iff.mp e
  exact fz_iff.mpr (h a o ez1 ez2)
theorem fz_sub {M : Addr → Prop} {H : Hp} : Same (Fz M H) H := fun a o e => (fz_iff.mp e).2
/-- the places of the bag and of itz cells -/
structure BP where
  x : Addr
  y : Addr
  /-- the place that also may change: the table of code objects (or the bag's again), and what is known of it -/
  z : Addr
  T : List (Addr × Str)
def Off (b : BP) (a : Addr) : Prop := a ≠ b.1 ∧ a ≠ b.3
def MB (b : BP) (M : Addr → Prop) : Prop := M b.1 ∧ M b.3
/-- all but the bag and the table stays -/
def Frm (b : BP) (H H' : Hp) : Prop := ∀ a o, Off b a → H a = some o → H' a = some o
theorem Frm.refl (b : BP) (H : Hp) : Frm b H H := fun _ _ _ e => e
theorem Frm.trans {b : BP} {H H1 H2 : Hp} (x : Frm b H H1) (y : Frm b H1 H2) : Frm b H H2 := fun a o n e => y a o n (x a o n e)
theorem Frm.new {b : BP} {p : Addr} {H : Hp} {o : HO} (n : H p = none) : Frm b H (upd H p o) := fun a u _ e => by
  rw [upd_ne (ne_of_none e n)]
  exact e
theorem Frm.free {b : BP} {a : Addr} {H H' : Hp} (x : Frm b H H') (n : H' a = none) (nb : Off b a) : H a = none := by
  cases q : H a with
  | none => rfl
  | some o =>
    rw [x a o nb q] at n
    cases n
theorem Frm.fz {b : BP} {M : Addr → Prop} {H H' : Hp} (x : Frm b H H') (mb : MB b M) : Same (Fz M H) (Fz M H') := fz_same fun a o n e => ⟨n, x a o ⟨fun z => n (z ▸ mb.1), fun z => n (z ▸ mb.2)⟩ e⟩

/-! ### the bag -/
/-- at b stands the bag: itz number, itz stir, itz place, itz cells -/
def Bag (b : BP) (H : Hp) : Prop := ∃ (z st n : Int) (cs : List Int), H b.1 = some (.lst [.int z, .int st, .int n, .ref b.2]) ∧ b.2 ≠ b.1 ∧ H b.2 = some (.lst (cs.map V.int)) ∧
  0 ≤ z ∧ 0 ≤ st ∧ st < 2147483647 ∧ 0 ≤ n ∧ cs.length ≤ 63 ∧ (∀ x ∈ cs, 0 ≤ x) ∧ H b.3 ≠ none ∧ LamX.Tabs b.4 H ∧ ∀ a ps, H a = some (.tbl ps) → a = b.3
theorem Bag.stay {b : BP} {H H' : Hp} (g : Bag b H) (h1 : H' b.1 = H b.1) (h2 : H' b.2 = H b.2) (h3 : H' b.3 ≠ none) (h4 : LamX.Tabs b.4 H → LamX.Tabs b.4 H') (h5 : ∀ a ps, H' a = some (.tbl ps) → H a = some (.tbl ps)) : Bag b H' := by
  obtain ⟨z, st, k, cs, ez1, ez2, e3, e4, e5, e6, e7, e8, e9, e10, e11, e12⟩ := g
  exact ⟨z, st, k, cs, h1.trans ez1, ez2, h2.trans e3, e4, e5, e6, e7, e8, e9, h3, h4 e11, fun a ps e => e12 a ps (h5 a ps e)⟩
theorem Bag.there {b : BP} {H : Hp} (g : Bag b H) : H b.1 ≠ none := by
  obtain ⟨z, st, k, cs, h1, _⟩ := g
  rw [h1]
  exact fun e => nomatch e
theorem Bag.there2 {b : BP} {H : Hp} (g : Bag b H) : H b.2 ≠ none := by
  obtain ⟨z, st, k, cs, _, _, h1, _⟩ := g
  rw [h1]
  exact fun e => nomatch e
theorem Bag.there3 {b : BP} {H : Hp} (g : Bag b H) : H b.3 ≠ none := by
  obtain ⟨z, st, k, cs, _, _, _, _, _, _, _, _, _, h, _⟩ := g
  exact h
theorem Bag.off {b : BP} {H : Hp} (g : Bag b H) {p : Addr} (n : H p = none) : Off b p := ⟨fun z => g.there (z ▸ n), fun z => g.there3 (z ▸ n)⟩
theorem Bag.ext {b : BP} {H H' : Hp} (g : Bag b H) (s : Same H H') (nt : ∀ a ps, H' a = some (.tbl ps) → H a = some (.tbl ps)) : Bag b H' := by
  obtain ⟨z, st, k, cs, ez1, ez2, e3, e4, e5, e6, e7, e8, e9, e10, e11, e12⟩ := g
  refine ⟨z, st, k, cs, s _ _ ez1, ez2, s _ _ e3, e4, e5, e6, e7, e8, e9, ?_, e11.ext s, fun a ps e => e12 a ps (nt a ps e)⟩
  cases q : H b.3 with
  | none => exact (e10 q).elim
  | some o =>
    rw [s _ _ q]
    exact fun z => nomatch z
theorem same_new {H : Hp} {p : Addr} {o : HO} (n : H p = none) : Same H (upd H p o) := fun a u e => by
  rw [upd_ne (ne_of_none e n)]
  exact e
/-- no table is new -/
theorem nt_upd {H : Hp} {p : Addr} {o : HO} (nt : ∀ ps, o ≠ .tbl ps) (a : Addr) (ps : Array Value) (e : upd H p o a = some (.tbl ps)) : H a = some (.tbl ps) := by
  by_cases ap : a = p
  · rw [ap, upd_same] at e
    exact (nt ps (Option.some.inj e)).elim
  · rw [upd_ne ap] at e
    exact e
theorem Bag.new {b : BP} {p : Addr} {H : Hp} {o : HO} (g : Bag b H) (n : H p = none) (nt : ∀ ps, o ≠ .tbl ps := by intro _ z; cases z) : Bag b (upd H p o) := g.ext (same_new n) (nt_upd nt)
/-- a list changes: no table, no code object -/
theorem tabs_lst {T : List (Addr × Str)} {H : Hp} {p : Addr} {vs us : List V} (h : H p = some (.lst vs)) (t : LamX.Tabs T H) : LamX.Tabs T (upd H p (.lst us)) := by
  intro q hqz
  obtain ⟨ps, ez1, ez2, e3⟩ := t q hqz
  refine ⟨ps, by rw [upd_ne (ne_of ez1 h (by intro z; cases z))]; exact ez1, ez2, fun pos cv hc => ?_⟩
  obtain ⟨c, c1, c2⟩ := e3 pos cv hc
  exact ⟨c, c1, by rw [upd_ne (ne_of c2 h (by intro z; unfold LamX.CodeO at z; cases z))]; exact c2⟩

/-! ### what a value is: data that stands still, a list that is read, the bag -/
inductive W where
  | d (x : PD)
  | l (xs : List PD)
  | bag
def RepW (K : PySem.W.Frag) (M : Addr → Prop) (b : BP) (H : Hp) (v : V) : W → Prop
  | .d x => Dq K (Fz M H) v x
  | .l xs => ∃ a vs, v = .ref a ∧ Off b a ∧ H a = some (.lst vs) ∧ DqAll K (Fz M H) vs xs
  | .bag => v = .ref b.1
/-- a new list -/
def RepF (K : PySem.W.Frag) (M : Addr → Prop) (H H' : Hp) (v : V) (xs : List PD) : Prop :=
  ∃ p vs, v = .ref p ∧ H p = none ∧ H' p = some (.lst vs) ∧ DqAll K (Fz (fun a => M a ∨ a = p) H') vs xs
theorem RepW.frm {K : PySem.W.Frag} {M : Addr → Prop} {b : BP} {H H' : Hp} {v : V} {w : W} (r : RepW K M b H v w) (x : Frm b H H') (mb : MB b M) : RepW K M b H' v w := by
  cases w with
  | d y => exact dp_mono (x.fz mb) _ _ r
  | l xs =>
    obtain ⟨a, vs, e, n, h, q⟩ := r
    exact ⟨a, vs, e, n, x a _ n h, dpAll_mono (x.fz mb) _ _ q⟩
  | bag => exact r
theorem RepF.frm {K : PySem.W.Frag} {M : Addr → Prop} {b : BP} {H H1 H2 : Hp} {v : V} {xs : List PD} (r : RepF K M H H1 v xs) (x : Frm b H1 H2) (mb : MB b M) (g : Bag b H) : RepF K M H H2 v xs := by
  obtain ⟨p, vs, e, n, h, q⟩ := r
  have np : Off b p := g.off n
  exact ⟨p, vs, e, n, x p _ np h, dpAll_mono (x.fz ⟨.inl mb.1, .inl mb.2⟩) _ _ q⟩
/-- made, it may stand still from now on -/
theorem RepF.still {K : PySem.W.Frag} {M : Addr → Prop} {H H' : Hp} {v : V} {xs : List PD} (r : RepF K M H H' v xs) (dom : ∀ a, M a → H a ≠ none) : Dq K (Fz M H') v (.list xs) := by
  obtain ⟨p, vs, rfl, n, h, q⟩ := r
  have np : ¬ M p := fun z => dom p z n
  exact .lst (SqL.of (fz_iff.mpr ⟨np, h⟩)) (dpAll_mono (fz_same fun a o z e => ⟨fun m => z (.inl m), e⟩) _ _ q)
/-- what a comparison, a repr reads -/
def W.py : W → Option PD
  | .d x => some x
  | .l xs => some (.list xs)
  | .bag => none
theorem RepW.pyq {K : PySem.W.Frag} {M : Addr → Prop} {b : BP} {H : Hp} {v : V} {w : W} {x : PD} (r : RepW K M b H v w) (e : w.py = some x) : Dq K H v x := by
  cases w with
  | d y =>
    obtain rfl := Option.some.inj e
    exact dp_mono fz_sub _ _ r
  | l xs =>
    obtain rfl := Option.some.inj e
    obtain ⟨a, vs, rfl, n, h, q⟩ := r
    exact .lst (SqL.of h) (dpAll_mono fz_sub _ _ q)
  | bag => cases e
theorem RepW.py {K : PySem.W.Frag} {M : Addr → Prop} {b : BP} {H : Hp} {v : V} {w : W} {x : PD} (r : RepW K M b H v w) (e : w.py = some x) (nd : x.hasDict = false) : L2.Dp K H v x := dq_dp _ _ (r.pyq e) nd
/-! ### the slots -/
inductive E where
  | un
  | v (w : W)
  | own (xs : List PD)
abbrev En := List E
abbrev MO (M O : Addr → Prop) : Addr → Prop := fun a => M a ∨ O a
def W.isL : W → Bool
  | .l _ => true
  | _ => false
/-- O: the lists of this def's own -/
def SlotOk (K : PySem.W.Frag) (M O : Addr → Prop) (b : BP) (H : Hp) (s : Option V) : E → Prop
  | .un => True
  | .v w => ∃ v, s = some v ∧ RepW K (MO M O) b H v w ∧ (w.isL = true → ∀ a, O a → v ≠ .ref a)
  | .own xs => ∃ p vs, s = some (.ref p) ∧ O p ∧ H p = some (.lst vs) ∧ DqAll K (Fz (MO M O) H) vs xs
structure ER (K : PySem.W.Frag) (M0 : Addr → Prop) (b : BP) (H0 : Hp) (O : Addr → Prop) (σ : LSt) (H : Hp) (env : En) : Prop where
  mb : MB b M0
  mc : M0 b.2
  dom : ∀ a, M0 a → H0 a ≠ none
  frm : Frm b H0 H
  bag : Bag b H
  len : σ.length = env.length
  own : ∀ a, O a → H0 a = none ∧ ∃ xs, H a = some (.lst xs)
  slot : ∀ (i : Nat) (s : Option V) (e : E), σ[i]? = some s → env[i]? = some e → SlotOk K M0 O b H s e
  uniq : ∀ (i j : Nat) (p : Addr) (xs ys : List PD), σ[i]? = some (some (V.ref p)) → σ[j]? = some (some (V.ref p)) → env[i]? = some (E.own xs) → env[j]? = some (E.own ys) → i = j

section
variable {K : PySem.W.Frag} {M0 M O : Addr → Prop} {b : BP} {H0 H H' : Hp} {σ : LSt} {env : En}
theorem SlotOk.frm {s : Option V} {e : E} (r : SlotOk K M O b H s e) (x : Frm b H H') (mb : MB b M) (nb : ∀ a, O a → Off b a) : SlotOk K M O b H' s e := by
  cases e with
  | un => trivial
  | v w =>
    obtain ⟨v, e, q, n⟩ := r
    exact ⟨v, e, q.frm x ⟨.inl mb.1, .inl mb.2⟩, n⟩
  | own xs =>
    obtain ⟨p, vs, e, o, h, q⟩ := r
    exact ⟨p, vs, e, o, x p _ (nb p o) h, dpAll_mono (x.fz ⟨.inl mb.1, .inl mb.2⟩) _ _ q⟩
theorem ER.nb (r : ER K M0 b H0 O σ H env) : ∀ a, O a → Off b a := fun a o => ⟨fun z => r.dom b.1 r.mb.1 (z ▸ (r.own a o).1), fun z => r.dom b.3 r.mb.2 (z ▸ (r.own a o).1)⟩
theorem ER.mbO (r : ER K M0 b H0 O σ H env) : MB b (MO M0 O) := ⟨.inl r.mb.1, .inl r.mb.2⟩
theorem ER.domO (r : ER K M0 b H0 O σ H env) : ∀ a, MO M0 O a → H a ≠ none := by
  rintro a (m | o)
  · by_cases e : a = b.1
    · subst e
      exact r.bag.there
    · by_cases e3 : a = b.3
      · subst e3
        exact r.bag.there3
      · cases q : H0 a with
        | none => exact (r.dom a m q).elim
        | some u =>
          rw [r.frm a u ⟨e, e3⟩ q]
          exact fun z => nomatch z
  · obtain ⟨xs, e⟩ := (r.own a o).2
    rw [e]
    exact fun z => nomatch z
/-- behind what changes the bag alone -/
theorem ER.after (r : ER K M0 b H0 O σ H env) (x : Frm b H H') (g : Bag b H') : ER K M0 b H0 O σ H' env := by
  refine ⟨r.mb, r.mc, r.dom, r.frm.trans x, g, r.len, fun a o => ⟨(r.own a o).1, ?_⟩, fun i s e ez1 ez2 => (r.slot i s e ez1 ez2).frm x r.mb r.nb, r.uniq⟩
  obtain ⟨xs, e⟩ := (r.own a o).2
  exact ⟨xs, x a _ (r.nb a o) e⟩
end
end DD

set_option maxHeartbeats 3999999
/-! readings of expressions, as data -/
namespace DD
open PySem PySem.Spec PyProof.Rows L2 GG
abbrev Wm := En → (W → Prop) → Prop
abbrev Wl := En → (List W → Prop) → Prop
abbrev Wf := En → (List PD → Prop) → Prop
abbrev Wt := En → (Bool → Prop) → Prop
section
variable (K : PySem.W.Frag) (b : BP)
/-- the reading t comes to what m says -/
def Snd (t : TE) (m : Wm) : Prop := ∀ (M0 : Addr → Prop) (H0 : Hp) (O : Addr → Prop) (σ : LSt) (H : Hp) (env : En), ER K M0 b H0 O σ H env → ∀ Qa : W → Prop, m env Qa →
  ∀ Q : VK, (∀ v w H', Frm b H H' → Bag b H' → RepW K (MO M0 O) b H' v w → Qa w → Q v H') → t σ H Q
/-- .. a new list -/
def SndF (t : TE) (m : Wf) : Prop := ∀ (M0 : Addr → Prop) (H0 : Hp) (O : Addr → Prop) (σ : LSt) (H : Hp) (env : En), ER K M0 b H0 O σ H env → ∀ Qa : List PD → Prop, m env Qa →
  ∀ Q : VK, (∀ v xs H', Frm b H H' → Bag b H' → RepF K (MO M0 O) H H' v xs → Qa xs → Q v H') → t σ H Q
/-- arguments -/
def SndA (t : TA) (m : Wl) : Prop := ∀ (M0 : Addr → Prop) (H0 : Hp) (O : Addr → Prop) (σ : LSt) (H : Hp) (env : En), ER K M0 b H0 O σ H env → ∀ Qa : List W → Prop, m env Qa →
  ∀ Q : List V → Hp → Prop, (∀ vs ws H', Frm b H H' → Bag b H' → Paired (RepW K (MO M0 O) b H') vs ws → Qa ws → Q vs H') → t σ H Q
/-- a test -/
def SndT (t : TT) (m : Wt) : Prop := ∀ (M0 : Addr → Prop) (H0 : Hp) (O : Addr → Prop) (σ : LSt) (H : Hp) (env : En), ER K M0 b H0 O σ H env → ∀ Qa : Bool → Prop, m env Qa →
  ∀ Q : Bool → Hp → Prop, (∀ c H', Frm b H H' → Bag b H' → Qa c → Q c H') → t σ H Q
end
section
variable {K : PySem.W.Frag} {b : BP} {t ta tbz te : TE} {tt uu : TT} {tas : TA} {m ma mb : Wm} {ms : Wl} {mt mu : Wt} {mf mg : Wf}
/-! what a name is worth -/
def rdE : Option E → Option W
  | some (.v w) => some w
  | some (.own xs) => some (.l xs)
  | _ => none
def varW (i : Nat) : Wm := fun env Q => ∃ w, rdE env[i]? = some w ∧ Q w
theorem snd_var {i : Nat} : Snd K b (tVar i) (varW i) := by
  intro M0 H0 O σ H env r Qa h Q k
  obtain ⟨w, e, q⟩ := h
  cases ee : env[i]? with
  | none =>
    rw [ee] at e
    cases e
  | some x =>
    rw [ee] at e
    have hi : i < σ.length := by
      rw [r.len]
      exact (List.getElem?_eq_some_iff.mp ee).1
    have so := r.slot i _ x (List.getElem?_eq_getElem hi) ee
    cases x with
    | un => cases e
    | v w' =>
      obtain rfl := Option.some.inj e
      obtain ⟨v, ev, rp, _⟩ := so
      exact ⟨v, by rw [List.getElem?_eq_getElem hi, ev], k v w' H (Frm.refl _ _) r.bag rp q⟩
    | own xs =>
      obtain rfl := Option.some.inj e
      obtain ⟨p, vs, ev, o, hpz, dp⟩ := so
      exact ⟨.ref p, by rw [List.getElem?_eq_getElem hi, ev], k _ (.l xs) H (Frm.refl _ _) r.bag ⟨p, vs, rfl, r.nb p o, hpz, dp⟩ q⟩
def conW (d : PD) : Wm := fun _ Q => Q (.d d)
theorem snd_int {i : Int} : Snd K b (tC (.int i)) (conW (.int i)) := fun _ _ _ _ H _ r _ h _ k => k _ (.d (.int i)) H (Frm.refl _ _) r.bag (Dq.int i) h
theorem snd_str {x : Str} : Snd K b (tC (.str x)) (conW (.str x)) := fun _ _ _ _ H _ r _ h _ k => k _ (.d (.str x)) H (Frm.refl _ _) r.bag (Dq.str x) h
theorem snd_bl {x : Bool} : Snd K b (tC (.bl x)) (conW (.bool x)) := fun _ _ _ _ H _ r _ h _ k => k _ (.d (.bool x)) H (Frm.refl _ _) r.bag (Dq.bl x) h
theorem snd_non : Snd K b (tC .non) (conW .none) := fun _ _ _ _ H _ r _ h _ k => k _ (.d .none) H (Frm.refl _ _) r.bag Dq.non h
/-! arguments -/
def nilW : Wl := fun _ Q => Q []
def consW (ma : Wm) (ms : Wl) : Wl := fun env Q => ma env fun w => ms env fun ws => Q (w :: ws)
theorem snd_nil : SndA K b tNil nilW := fun _ _ _ _ H _ r _ h _ k => k [] [] H (Frm.refl _ _) r.bag .nil h
theorem snd_cons (haz : Snd K b ta ma) (hsv0 : SndA K b tas ms) : SndA K b (tCons ta tas) (consW ma ms) := by
  intro M0 H0 O σ H env r Qa h Q k
  refine haz M0 H0 O σ H env r _ h _ ?_
  intro v w H1 f1 g1 r1 h1
  refine hsv0 M0 H0 O σ H1 env (r.after f1 g1) _ h1 _ ?_
  intro vs ws H2 f2 g2 r2 h2
  exact k _ _ H2 (f1.trans f2) g2 (.cons (r1.frm f2 r.mbO) r2) h2
/-- a new list, as data -/
def frzW (mf : Wf) : Wm := fun env Q => mf env fun xs => Q (.d (.list xs))
theorem snd_frz (h : SndF K b t mf) : Snd K b t (frzW mf) := by
  intro M0 H0 O σ H env r Qa hmz Q k
  refine h M0 H0 O σ H env r _ hmz _ ?_
  intro v xs H' f g rp q
  exact k v (.d (.list xs)) H' f g (rp.still r.domO) q
/-! displays -/
def allD : List W → Option (List PD)
  | [] => some []
  | .d x :: ws => (allD ws).map (x :: ·)
  | _ :: _ => none
theorem allD_rep {M : Addr → Prop} {H : Hp} : ∀ {vs : List V} {ws : List W} {ds : List PD}, Paired (RepW K M b H) vs ws → allD ws = some ds → DqAll K (Fz M H) vs ds
  | _, _, _, .nil, e => by
    obtain rfl := Option.some.inj e
    exact .nil
  | _, w :: ws, ds, .cons r s, e => by
    cases w with
    | d x =>
      cases q : allD ws with
      | none =>
        simp only [allD, q] at e
        cases e
      | some es =>
        simp only [allD, q] at e
        obtain rfl := Option.some.inj e
        exact .cons r (allD_rep s q)
    | l xs => cases e
    | bag => cases e
def tupW (ms : Wl) : Wm := fun env Q => ms env fun ws => ∃ ds, allD ws = some ds ∧ ds.length ≤ sizeLine ∧ Q (.d (.tuple ds))
theorem fz_new {M : Addr → Prop} {H : Hp} {p : Addr} {o : HO} (n : H p = none) : Same (Fz M H) (Fz M (upd H p o)) := fz_same fun a u z e => ⟨z, by rw [upd_ne (ne_of_none e n)]; exact e⟩
theorem TupD.of {M : Addr → Prop} {H : Hp} {p : Addr} {xs : List V} {o : Obj} (np : ¬ M p) (d : o.dict = none) (c : o.cls = .type "tuple") : TupD K (Fz M (upd H p (.frz o (.tup xs)))) p xs :=
  .inl ⟨o, fz_iff.mpr ⟨np, upd_same⟩, d, c⟩
theorem snd_tup (h : SndA K b tas ms) : Snd K b (tTupZ tas) (tupW ms) := by
  intro M0 H0 O σ H env r Qa hmz Q k
  refine h M0 H0 O σ H env r _ hmz _ ?_
  intro vs ws H' f g rp ⟨ds, e, hzz, q⟩
  have dp := allD_rep rp e
  refine ⟨by rw [dpAll_len dp]; exact hzz, fun p o hpz hdz hc => ?_⟩
  have np : ¬ MO M0 O p := fun z => (r.after f g).domO p z hpz
  exact k _ (.d (.tuple ds)) _ (f.trans (Frm.new hpz)) (g.new hpz) (Dq.tup (TupD.of np hdz hc) (dpAll_mono (fz_new hpz) _ _ dp)) q
def lstW (ms : Wl) : Wf := fun env Q => ms env fun ws => ∃ ds, allD ws = some ds ∧ ds.length ≤ sizeLine ∧ Q ds
theorem snd_lst (h : SndA K b tas ms) : SndF K b (tLst tas) (lstW ms) := by
  intro M0 H0 O σ H env r Qa hmz Q k
  refine h M0 H0 O σ H env r _ hmz _ ?_
  intro vs ws H' f g rp ⟨ds, e, hzz, q⟩
  have dp := allD_rep rp e
  refine ⟨by rw [dpAll_len dp]; exact hzz, fun p hpz => ?_⟩
  have pb : Off b p := g.off hpz
  refine k _ ds _ (f.trans (Frm.new hpz)) (g.new hpz) ⟨p, vs, rfl, f.free hpz pb, upd_same, ?_⟩ q
  refine dpAll_mono (fz_same ?_) _ _ dp
  intro a o z e
  have nap : a ≠ p := ne_of_none e hpz
  refine ⟨?_, by rw [upd_ne nap]; exact e⟩
  rintro (m | m)
  · exact z m
  · exact nap m
/-! two operands -/
def opW (f : W → W → (W → Prop) → Prop) (ma mb : Wm) : Wm := fun env Q => ma env fun x => mb env fun y => f x y Q
/-- an operation on values, as data: it changes nothing but new places -/
def RV2 (K : PySem.W.Frag) (b : BP) (r : R2) (f : W → W → (W → Prop) → Prop) : Prop := ∀ (M : Addr → Prop) (H : Hp) (x y : V) (wx wy : W), MB b M → (∀ a, M a → H a ≠ none) → Bag b H → RepW K M b H x wx → RepW K M b H y wy → ∀ Qa, f wx wy Qa →
  ∀ Q : VK, (∀ v w H', Frm b H H' → Bag b H' → RepW K M b H' v w → Qa w → Q v H') → r x y H Q
theorem snd_op {r2 : R2} {f : W → W → (W → Prop) → Prop} (hr : RV2 K b r2 f) (haz : Snd K b ta ma) (hb : Snd K b tbz mb) : Snd K b (tOp r2 ta tbz) (opW f ma mb) := by
  intro M0 H0 O σ H env r Qa h Q k
  refine haz M0 H0 O σ H env r _ h _ ?_
  intro v w H1 f1 g1 r1 h1
  refine hb M0 H0 O σ H1 env (r.after f1 g1) _ h1 _ ?_
  intro u w' H2 f2 g2 r2 h2
  refine hr (MO M0 O) H2 v u w w' r.mbO ((r.after f1 g1).after f2 g2).domO g2 (r1.frm f2 r.mbO) r2 _ h2 _ ?_
  intro z wz H3 f3 g3 r3 q
  exact k z wz H3 ((f1.trans f2).trans f3) g3 r3 q
/-- == at any depth -/
def eqF (x y : W) (Q : W → Prop) : Prop := ∃ d e, x.py = some d ∧ y.py = some e ∧ SeqAt.shaped d = true ∧ SeqAt.shaped e = true ∧ Q (.d (.bool (PyData.eqv d e)))
def neF (x y : W) (Q : W → Prop) : Prop := ∃ d e, x.py = some d ∧ y.py = some e ∧ SeqAt.shaped d = true ∧ SeqAt.shaped e = true ∧ Q (.d (.bool (!PyData.eqv d e)))
theorem rv_eqD : RV2 K b (rEqD K) eqF := by
  intro M H x y wx wy mb dom g rxz ryz Qa h Q k
  obtain ⟨d, e, ez1, ez2, s1, s2, q⟩ := h
  exact ⟨d, e, rxz.py ez1 (noD_shaped s1), ryz.py ez2 (noD_shaped s2), s1, s2, k _ (.d (.bool _)) H (Frm.refl _ _) g (Dq.bl _) q⟩
theorem rv_neD : RV2 K b (rNeD K) neF := by
  intro M H x y wx wy mb dom g rxz ryz Qa h Q k
  obtain ⟨d, e, ez1, ez2, s1, s2, q⟩ := h
  exact ⟨d, e, rxz.py ez1 (noD_shaped s1), ryz.py ez2 (noD_shaped s2), s1, s2, k _ (.d (.bool _)) H (Frm.refl _ _) g (Dq.bl _) q⟩
/-- on ints -/
def iiF (C : Int → Int → Prop) (f : Int → Int → PD) (x y : W) (Q : W → Prop) : Prop := ∃ i j, x = .d (.int i) ∧ y = .d (.int j) ∧ C i j ∧ Q (.d (f i j))
theorem repInt {M : Addr → Prop} {H : Hp} {v : V} {i : Int} (r : RepW K M b H v (.d (.int i))) : v = .int i := by
  have r' : Dq K (Fz M H) v (.int i) := r
  cases r'
  rfl
theorem rv_ii0 {g : Int → Int → V} {f : Int → Int → PD} (hdz : ∀ H i j, Dq K H (g i j) (f i j)) : RV2 K b (rI0 g) (iiF (fun _ _ => True) f) := by
  intro M H x y wx wy mb dom gb rxz ryz Qa h Q k
  obtain ⟨i, j, rfl, rfl, _, q⟩ := h
  exact ⟨i, j, repInt rxz, repInt ryz, k _ (.d (f i j)) H (Frm.refl _ _) gb (hdz _ i j) q⟩
theorem rv_ii {C : Int → Int → Prop} {g : Int → Int → V} {f : Int → Int → PD} (hdz : ∀ H i j, Dq K H (g i j) (f i j)) : RV2 K b (rI C g) (iiF C f) := by
  intro M H x y wx wy mb dom gb rxz ryz Qa h Q k
  obtain ⟨i, j, rfl, rfl, c, q⟩ := h
  exact ⟨i, j, repInt rxz, repInt ryz, c, k _ (.d (f i j)) H (Frm.refl _ _) gb (hdz _ i j) q⟩
/-! tests -/
def testW (m : Wm) : Wt := fun env Q => m env fun w => ∃ c, w = .d (.bool c) ∧ Q c
theorem repBool {M : Addr → Prop} {H : Hp} {v : V} {c : Bool} (r : RepW K M b H v (.d (.bool c))) : v = .bl c := by
  have r' : Dq K (Fz M H) v (.bool c) := r
  cases r'
  rfl
theorem snd_test (h : Snd K b te m) : SndT K b (tTest te) (testW m) := by
  intro M0 H0 O σ H env r Qa hmz Q k
  refine h M0 H0 O σ H env r _ hmz _ ?_
  rintro v w H' f g rp ⟨c, rfl, q⟩
  exact ⟨c, repBool rp, k c H' f g q⟩
theorem snd_tB (h : Snd K b te m) : SndT K b (tB te) (testW m) := by
  intro M0 H0 O σ H env r Qa hmz Q k
  refine h M0 H0 O σ H env r _ hmz _ ?_
  rintro v w H' f g rp ⟨c, rfl, q⟩
  exact ⟨c, repBool rp, k c H' f g q⟩
def andW (mt mu : Wt) : Wt := fun env Q => mt env fun c => if c = true then mu env Q else Q false
def orW (mt mu : Wt) : Wt := fun env Q => mt env fun c => if c = true then Q true else mu env Q
def notW (mt : Wt) : Wt := fun env Q => mt env fun c => Q (!c)
theorem snd_and (h1 : SndT K b tt mt) (h2 : SndT K b uu mu) : SndT K b (tAnd tt uu) (andW mt mu) := by
  intro M0 H0 O σ H env r Qa hmz Q k
  refine h1 M0 H0 O σ H env r _ hmz _ ?_
  intro c H1 f1 g1 q1
  cases c with
  | true => exact h2 M0 H0 O σ H1 env (r.after f1 g1) _ q1 _ fun c H2 f2 g2 q2 => k c H2 (f1.trans f2) g2 q2
  | false => exact k false H1 f1 g1 q1
theorem snd_or (h1 : SndT K b tt mt) (h2 : SndT K b uu mu) : SndT K b (tOr tt uu) (orW mt mu) := by
  intro M0 H0 O σ H env r Qa hmz Q k
  refine h1 M0 H0 O σ H env r _ hmz _ ?_
  intro c H1 f1 g1 q1
  cases c with
  | true => exact k true H1 f1 g1 q1
  | false => exact h2 M0 H0 O σ H1 env (r.after f1 g1) _ q1 _ fun c H2 f2 g2 q2 => k c H2 (f1.trans f2) g2 q2
theorem snd_not (h1 : SndT K b tt mt) : SndT K b (tNot tt) (notW mt) := by
  intro M0 H0 O σ H env r Qa hmz Q k
  exact h1 M0 H0 O σ H env r _ hmz _ fun c H1 f1 g1 q1 => k _ H1 f1 g1 q1
def ifW (mt : Wt) (ma mb : Wm) : Wm := fun env Q => mt env fun c => if c = true then ma env Q else mb env Q
theorem snd_if (h1 : SndT K b tt mt) (haz : Snd K b ta ma) (hb : Snd K b tbz mb) : Snd K b (tIf tt ta tbz) (ifW mt ma mb) := by
  intro M0 H0 O σ H env r Qa hmz Q k
  refine h1 M0 H0 O σ H env r _ hmz _ ?_
  intro c H1 f1 g1 q1
  cases c with
  | true => exact haz M0 H0 O σ H1 env (r.after f1 g1) _ q1 _ fun v w H2 f2 g2 r2 q2 => k v w H2 (f1.trans f2) g2 r2 q2
  | false => exact hb M0 H0 O σ H1 env (r.after f1 g1) _ q1 _ fun v w H2 f2 g2 r2 q2 => k v w H2 (f1.trans f2) g2 r2 q2
/-- True, False by `and`, `or`, `not` -/
def andVW (ma mb : Wm) : Wm := fun env Q => ma env fun x => ∃ c, x = .d (.bool c) ∧ if c = true then mb env Q else Q (.d (.bool false))
def orVW (ma mb : Wm) : Wm := fun env Q => ma env fun x => ∃ c, x = .d (.bool c) ∧ if c = true then Q (.d (.bool true)) else mb env Q
def notVW (ma : Wm) : Wm := fun env Q => ma env fun x => ∃ c, x = .d (.bool c) ∧ Q (.d (.bool !c))
theorem snd_andV (haz : Snd K b ta ma) (hb : Snd K b tbz mb) : Snd K b (tAndV ta tbz) (andVW ma mb) := by
  intro M0 H0 O σ H env r Qa hmz Q k
  refine haz M0 H0 O σ H env r _ hmz _ ?_
  rintro v w H1 f1 g1 r1 ⟨c, rfl, q1⟩
  refine ⟨c, repBool r1, ?_⟩
  cases c with
  | true => exact hb M0 H0 O σ H1 env (r.after f1 g1) _ q1 _ fun v w H2 f2 g2 r2 q2 => k v w H2 (f1.trans f2) g2 r2 q2
  | false => exact k _ (.d (.bool false)) H1 f1 g1 (Dq.bl _) q1
theorem snd_orV (haz : Snd K b ta ma) (hb : Snd K b tbz mb) : Snd K b (tOrV ta tbz) (orVW ma mb) := by
  intro M0 H0 O σ H env r Qa hmz Q k
  refine haz M0 H0 O σ H env r _ hmz _ ?_
  rintro v w H1 f1 g1 r1 ⟨c, rfl, q1⟩
  refine ⟨c, repBool r1, ?_⟩
  cases c with
  | true => exact k _ (.d (.bool true)) H1 f1 g1 (Dq.bl _) q1
  | false => exact hb M0 H0 O σ H1 env (r.after f1 g1) _ q1 _ fun v w H2 f2 g2 r2 q2 => k v w H2 (f1.trans f2) g2 r2 q2
theorem snd_notV (haz : Snd K b ta ma) : Snd K b (tNotV ta) (notVW ma) := by
  intro M0 H0 O σ H env r Qa hmz Q k
  refine haz M0 H0 O σ H env r _ hmz _ ?_
  rintro v w H1 f1 g1 r1 ⟨c, rfl, q1⟩
  exact ⟨c, repBool r1, k _ (.d (.bool !c)) H1 f1 g1 (Dq.bl _) q1⟩
end
end DD

set_option maxHeartbeats 3999999
/-! readings of statements and of calls, as data -/
namespace DD
open PySem PySem.Spec PyProof.Rows L2 GG
inductive Out where
  | nx (env : En)
  | rt (w : W)
  | rf (xs : List PD)
  | bk (env : En)
  | ct (env : En)
abbrev Ws := En → (Out → Prop) → Prop
/-- what follows, where all that stood still stands -/
def Nxt (K : PySem.W.Frag) (M0 : Addr → Prop) (b : BP) (H0 : Hp) (O : Addr → Prop) (H : Hp) (Qa : En → Prop) (P : LSt → Hp → Prop) : Prop :=
  ∀ O' σ' H' env', ER K M0 b H0 O' σ' H' env' → Same (Fz (MO M0 O) H) (Fz (MO M0 O') H') → Qa env' → P σ' H'
def SndS (K : PySem.W.Frag) (b : BP) (t : TS) (m : Ws) : Prop := ∀ (M0 : Addr → Prop) (H0 : Hp) (O : Addr → Prop) (σ : LSt) (H : Hp) (env : En), ER K M0 b H0 O σ H env → ∀ Qa : Out → Prop, m env Qa →
  ∀ D : Ends, Nxt K M0 b H0 O H (fun e => Qa (.nx e)) D.nx → Nxt K M0 b H0 O H (fun e => Qa (.bk e)) D.bk → Nxt K M0 b H0 O H (fun e => Qa (.ct e)) D.ct →
  (∀ v w H', Frm b H0 H' → Bag b H' → RepW K M0 b H' v w → Qa (.rt w) → D.rt v H') → (∀ v xs H', Frm b H0 H' → Bag b H' → RepF K M0 H0 H' v xs → Qa (.rf xs) → D.rt v H') → t D σ H
/-- what a loop hands on: data, or a new pair of data -/
inductive WI where
  | d (x : PD)
  | p (x y : PD)
def WI.parts : WI → Option (List PD)
  | .d (.tuple ds) => some ds
  | .p x y => some [x, y]
  | _ => none
def RepI (K : PySem.W.Frag) (M : Addr → Prop) (H : Hp) (v : V) : WI → Prop
  | .d x => Dq K (Fz M H) v x
  | .p x y => ∃ T vx vy, v = .ref T ∧ SqT K H T [vx, vy] ∧ Dq K (Fz M H) vx x ∧ Dq K (Fz M H) vy y
/-- a target that takes data -/
abbrev Wg := WI → En → (En → Prop) → Prop
abbrev Wgs := List PD → En → (En → Prop) → Prop
def SndG (K : PySem.W.Frag) (b : BP) (g : TG) (m : Wg) : Prop := ∀ (M0 : Addr → Prop) (H0 : Hp) (O : Addr → Prop) (σ : LSt) (H : Hp) (env : En) (v : V) (d : WI), ER K M0 b H0 O σ H env → RepI K (MO M0 O) H v d → ∀ Qa : En → Prop, m d env Qa →
  ∀ Q : LSt → Hp → Prop, (∀ σ' env', ER K M0 b H0 O σ' H env' → Qa env' → Q σ' H) → g v σ H Q
def SndGs (K : PySem.W.Frag) (b : BP) (g : TGs) (m : Wgs) : Prop := ∀ (M0 : Addr → Prop) (H0 : Hp) (O : Addr → Prop) (σ : LSt) (H : Hp) (env : En) (vs : List V) (ds : List PD), ER K M0 b H0 O σ H env → DqAll K (Fz (MO M0 O) H) vs ds → ∀ Qa : En → Prop, m ds env Qa →
  ∀ Q : LSt → Hp → Prop, (∀ σ' env', ER K M0 b H0 O σ' H env' → Qa env' → Q σ' H) → g vs σ H Q
section
variable {K : PySem.W.Frag} {b : BP} {M0 O : Addr → Prop} {H0 H H' : Hp} {σ : LSt} {env : En}
/-- a slot takes a value that is no own list -/
theorem ER.put (r : ER K M0 b H0 O σ H env) {v : V} {w : W} (i : Nat) (rp : RepW K (MO M0 O) b H v w) (nl : w.isL = false) : ER K M0 b H0 O (σ.set i (some v)) H (env.set i (.v w)) := by
  refine ⟨r.mb, r.mc, r.dom, r.frm, r.bag, by rw [List.length_set, List.length_set, r.len], r.own, ?_, ?_⟩
  · intro j s e h1 h2
    by_cases ij : i = j
    · subst ij
      have hi : i < σ.length := by
        have := (List.getElem?_eq_some_iff.mp h1).1
        rwa [List.length_set] at this
      rw [List.getElem?_set_self hi] at h1
      rw [List.getElem?_set_self (r.len ▸ hi)] at h2
      obtain rfl := Option.some.inj h1
      obtain rfl := Option.some.inj h2
      exact ⟨v, rfl, rp, fun z => by rw [nl] at z; cases z⟩
    · rw [List.getElem?_set_ne ij] at h1 h2
      exact r.slot j s e h1 h2
  · intro j k p xs ys h1 h2 h3 h4
    have other : ∀ (j : Nat) (zs : List PD), (env.set i (.v w))[j]? = some (.own zs) → i ≠ j := by
      intro j zs h e
      subst e
      by_cases hi : i < env.length
      · rw [List.getElem?_set_self hi] at h
        cases h
      · rw [List.getElem?_eq_none_iff.mpr (by rw [List.length_set]; omega)] at h
        cases h
    have nj := other j _ h3
    have nk := other k _ h4
    rw [List.getElem?_set_ne nj] at h1 h3
    rw [List.getElem?_set_ne nk] at h2 h4
    exact r.uniq j k p xs ys h1 h2 h3 h4
/-- a slot takes a new list: itz own from now on -/
theorem ER.make (r : ER K M0 b H0 O σ H env) {v : V} {xs : List PD} (i : Nat) (x : Frm b H H') (g : Bag b H') (rp : RepF K (MO M0 O) H H' v xs) :
    ∃ p, v = .ref p ∧ ER K M0 b H0 (fun a => O a ∨ a = p) (σ.set i (some v)) H' (env.set i (.own xs)) ∧ Same (Fz (MO M0 O) H) (Fz (MO M0 fun a => O a ∨ a = p) H') := by
  obtain ⟨p, vs, rfl, np, hpz, dp⟩ := rp
  refine ⟨p, rfl, ?_⟩
  have r' := r.after x g
  have pb : Off b p := r.bag.off np
  have n0 : H0 p = none := r.frm.free np pb
  have mo : ∀ a, MO (MO M0 O) (fun a => a = p) a ↔ MO M0 (fun a => O a ∨ a = p) a := fun a => or_assoc
  have fzs : Same (Fz (MO M0 O) H) (Fz (MO M0 fun a => O a ∨ a = p) H') := fz_same fun a o n e => by
    have nap : a ≠ p := ne_of_none e np
    refine ⟨?_, x a o ⟨fun z => n (.inl (z ▸ r.mb.1)), fun z => n (.inl (z ▸ r.mb.2))⟩ e⟩
    rintro (m | m | m)
    · exact n (.inl m)
    · exact n (.inr m)
    · exact nap m
  refine ⟨?_, fzs⟩
  -- what stood before H' at a slot
  have oldz : ∀ (s : Option V) (e : E), SlotOk K M0 O b H s e → SlotOk K M0 (fun a => O a ∨ a = p) b H' s e := by
    intro s e so
    cases e with
    | un => trivial
    | v w =>
      obtain ⟨v, e, rw', nl⟩ := so
      cases w with
      | d y => exact ⟨v, e, dp_mono fzs _ _ rw', fun z => by cases z⟩
      | l ys =>
        obtain ⟨a, us, ez1, nb, haz, da⟩ := rw'
        refine ⟨v, e, ⟨a, us, ez1, nb, x a _ nb haz, dpAll_mono fzs _ _ da⟩, fun _ c oc z => ?_⟩
        rcases oc with oc | oc
        · exact nl rfl c oc z
        · rw [ez1] at z
          obtain rfl := V.ref.inj z
          subst oc
          rw [np] at haz
          cases haz
      | bag => exact ⟨v, e, rw', fun z => by cases z⟩
    | own ys =>
      obtain ⟨q, us, ez1, oq, hqz, dq⟩ := so
      exact ⟨q, us, ez1, .inl oq, x q _ (r.nb q oq) hqz, dpAll_mono fzs _ _ dq⟩
  refine ⟨r.mb, r.mc, r.dom, r'.frm, g, by rw [List.length_set, List.length_set, r.len], ?_, ?_, ?_⟩
  · rintro a (o | rfl)
    · exact r'.own a o
    · exact ⟨n0, vs, hpz⟩
  · intro j s e h1 h2
    by_cases ij : i = j
    · subst ij
      have hi : i < σ.length := by
        have := (List.getElem?_eq_some_iff.mp h1).1
        rwa [List.length_set] at this
      rw [List.getElem?_set_self hi] at h1
      rw [List.getElem?_set_self (r.len ▸ hi)] at h2
      obtain rfl := Option.some.inj h1
      obtain rfl := Option.some.inj h2
      refine ⟨p, vs, rfl, .inr rfl, hpz, dpAll_mono (fz_same fun a o n e => ⟨fun z => n ((mo a).mpr z), e⟩) _ _ dp⟩
    · rw [List.getElem?_set_ne ij] at h1 h2
      exact oldz s e (r.slot j s e h1 h2)
  · have fresh : ∀ (j : Nat) (q : Addr) (zs : List PD), i ≠ j → σ[j]? = some (some (V.ref q)) → env[j]? = some (E.own zs) → q ≠ p := by
      intro j q zs ij h1 h2 e
      subst e
      obtain ⟨q', us, ez1, oq, hqz, dq⟩ := r.slot j _ _ h1 h2
      obtain rfl := V.ref.inj (Option.some.inj ez1)
      rw [np] at hqz
      cases hqz
    intro j k q ys zs h1 h2 h3 h4
    by_cases ij : i = j
    · subst ij
      by_cases ik : i = k
      · exact ik
      · have hi : i < σ.length := by
          have := (List.getElem?_eq_some_iff.mp h1).1
          rwa [List.length_set] at this
        rw [List.getElem?_set_self hi] at h1
        rw [List.getElem?_set_ne ik] at h2 h4
        have e : p = q := V.ref.inj (Option.some.inj (Option.some.inj h1))
        exact (fresh k q zs ik h2 h4 e.symm).elim
    · by_cases ik : i = k
      · subst ik
        have hi : i < σ.length := by
          have := (List.getElem?_eq_some_iff.mp h2).1
          rwa [List.length_set] at this
        rw [List.getElem?_set_self hi] at h2
        rw [List.getElem?_set_ne ij] at h1 h3
        have e : p = q := V.ref.inj (Option.some.inj (Option.some.inj h2))
        exact (fresh j q ys ij h1 h3 e.symm).elim
      · rw [List.getElem?_set_ne ij] at h1 h3
        rw [List.getElem?_set_ne ik] at h2 h4
        exact r.uniq j k q ys zs h1 h2 h3 h4
/-- an own list is changed -/
theorem ER.change (r : ER K M0 b H0 O σ H env) {i : Nat} {xs ys : List PD} {p : Addr} {us : List V} (hsv0 : σ[i]? = some (some (.ref p))) (hez : env[i]? = some (.own xs)) (dp : DqAll K (Fz (MO M0 O) H) us ys) : ER K M0 b H0 O σ (upd H p (.lst us)) (env.set i (.own ys)) ∧ Same (Fz (MO M0 O) H) (Fz (MO M0 O) (upd H p (.lst us))) := by
  obtain ⟨p', vs, ez1, op, hpz, _⟩ := r.slot i _ _ hsv0 hez
  obtain rfl := V.ref.inj (Option.some.inj ez1)
  have pb := r.nb p op
  have p0 := (r.own p op).1
  have pc : p ≠ b.2 := fun z => r.dom b.2 r.mc (z ▸ p0)
  have fzs : Same (Fz (MO M0 O) H) (Fz (MO M0 O) (upd H p (.lst us))) := fz_same fun a o n e => by
    have nap : a ≠ p := fun z => n (.inr (z ▸ op))
    exact ⟨n, by rw [upd_ne nap]; exact e⟩
  refine ⟨?_, fzs⟩
  refine ⟨r.mb, r.mc, r.dom, ?_, r.bag.stay (upd_ne pb.1.symm) (upd_ne pc.symm) (by rw [upd_ne pb.2.symm]; exact r.bag.there3) (tabs_lst hpz) (nt_upd (by intro _ z; cases z)), by rw [List.length_set, r.len], ?_, ?_, ?_⟩
  · intro a o n e
    rw [upd_ne (ne_of_none e p0)]
    exact r.frm a o n e
  · intro a o
    refine ⟨(r.own a o).1, ?_⟩
    by_cases ap : a = p
    · subst ap
      exact ⟨us, upd_same⟩
    · rw [upd_ne ap]
      exact (r.own a o).2
  · intro j s e h1 h2
    by_cases ij : i = j
    · subst ij
      rw [List.getElem?_set_self (List.getElem?_eq_some_iff.mp hez).1] at h2
      obtain rfl := Option.some.inj h2
      rw [hsv0] at h1
      obtain rfl := Option.some.inj h1
      exact ⟨p, us, rfl, op, upd_same, dpAll_mono fzs _ _ dp⟩
    · rw [List.getElem?_set_ne ij] at h2
      have so := r.slot j s e h1 h2
      cases e with
      | un => trivial
      | v w =>
        obtain ⟨v, e, rw', nl⟩ := so
        refine ⟨v, e, ?_, nl⟩
        cases w with
        | d y => exact dp_mono fzs _ _ rw'
        | l zs =>
          obtain ⟨a, vs', ez1, nb, haz, da⟩ := rw'
          have ap : a ≠ p := fun z => nl rfl p op (by rw [ez1, z])
          exact ⟨a, vs', ez1, nb, by rw [upd_ne ap]; exact haz, dpAll_mono fzs _ _ da⟩
        | bag => exact rw'
      | own zs =>
        obtain ⟨q, vs', es, oq, hqz, dq⟩ := so
        have qp : q ≠ p := fun z => by
          subst z
          rw [es] at h1
          exact ij (r.uniq i j q xs zs hsv0 h1 hez h2)
        exact ⟨q, vs', es, oq, by rw [upd_ne qp]; exact hqz, dpAll_mono fzs _ _ dq⟩
  · intro j k q ys' zs h1 h2 h3 h4
    have back : ∀ (j : Nat) (zs : List PD), (env.set i (.own ys))[j]? = some (.own zs) → ∃ zs', env[j]? = some (.own zs') := by
      intro j zs h
      by_cases ij : i = j
      · subst ij
        exact ⟨xs, hez⟩
      · rw [List.getElem?_set_ne ij] at h
        exact ⟨zs, h⟩
    obtain ⟨_, h3⟩ := back j _ h3
    obtain ⟨_, h4⟩ := back k _ h4
    exact r.uniq j k q _ _ h1 h2 h3 h4
/-- an own list stands still from now on -/
def relE : E → E
  | .own xs => .v (.d (.list xs))
  | e => e
theorem ER.release (r : ER K M0 b H0 O σ H env) (i : Nat) : ∃ O', ER K M0 b H0 O' σ H (env.modify i relE) ∧ Same (Fz (MO M0 O) H) (Fz (MO M0 O') H) := by
  cases hez : env[i]? with
  | none =>
    rw [List.modify_eq_self (List.getElem?_eq_none_iff.mp hez)]
    exact ⟨O, r, Same.refl _⟩
  | some e =>
    have hi := (List.getElem?_eq_some_iff.mp hez).1
    have eset : env.modify i relE = env.set i (relE e) := by
      apply List.ext_getElem?
      intro j
      rw [List.getElem?_modify]
      by_cases ij : i = j
      · subst ij
        rw [List.getElem?_set_self hi, hez]
        simp
      · rw [List.getElem?_set_ne ij]
        simp [ij]
    have stay : relE e = e → ∃ O', ER K M0 b H0 O' σ H (env.modify i relE) ∧ Same (Fz (MO M0 O) H) (Fz (MO M0 O') H) := fun q => by
      refine ⟨O, ?_, Same.refl _⟩
      rw [eset, q, (List.getElem?_eq_some_iff.mp hez).2.symm, List.set_getElem_self]
      exact r
    cases e with
    | un => exact stay rfl
    | v w => exact stay rfl
    | own xs =>
      have his : i < σ.length := r.len ▸ hi
      obtain ⟨p, vs, ez1, op, hpz, dp⟩ := r.slot i _ _ (List.getElem?_eq_getElem his) hez
      have hsv0 : σ[i]? = some (some (.ref p)) := by rw [List.getElem?_eq_getElem his, ez1]
      let O' : Addr → Prop := fun a => O a ∧ a ≠ p
      have fzs : Same (Fz (MO M0 O) H) (Fz (MO M0 O') H) := fz_same fun a o n e => ⟨fun z => n (z.elim .inl fun z => .inr z.1), e⟩
      have nm : ¬ MO M0 O' p := by
        rintro (m | ⟨_, m⟩)
        · exact r.dom p m (r.own p op).1
        · exact m rfl
      refine ⟨O', ?_, fzs⟩
      rw [eset]
      refine ⟨r.mb, r.mc, r.dom, r.frm, r.bag, by rw [List.length_set, r.len], fun a o => r.own a o.1, ?_, ?_⟩
      · intro j s e h1 h2
        by_cases ij : i = j
        · subst ij
          rw [List.getElem?_set_self hi] at h2
          obtain rfl := Option.some.inj h2
          rw [hsv0] at h1
          obtain rfl := Option.some.inj h1
          exact ⟨.ref p, rfl, Dq.lst (SqL.of (fz_iff.mpr ⟨nm, hpz⟩)) (dpAll_mono fzs _ _ dp), fun z => by cases z⟩
        · rw [List.getElem?_set_ne ij] at h2
          have so := r.slot j s e h1 h2
          cases e with
          | un => trivial
          | v w =>
            obtain ⟨v, e, rw', nl⟩ := so
            refine ⟨v, e, ?_, fun z a o => nl z a o.1⟩
            cases w with
            | d y => exact dp_mono fzs _ _ rw'
            | l zs =>
              obtain ⟨a, vs', ez1, nb, haz, da⟩ := rw'
              exact ⟨a, vs', ez1, nb, haz, dpAll_mono fzs _ _ da⟩
            | bag => exact rw'
          | own zs =>
            obtain ⟨q, vs', es, oq, hqz, dq⟩ := so
            have qp : q ≠ p := fun z => by
              subst z
              rw [es] at h1
              exact ij (r.uniq i j q xs zs hsv0 h1 hez h2)
            exact ⟨q, vs', es, ⟨oq, qp⟩, hqz, dpAll_mono fzs _ _ dq⟩
      · intro j k q ys zs h1 h2 h3 h4
        have back : ∀ (j : Nat) (zs : List PD), (env.set i (relE (.own xs)))[j]? = some (.own zs) → env[j]? = some (.own zs) := by
          intro j zs h
          by_cases ij : i = j
          · subst ij
            rw [List.getElem?_set_self hi] at h
            cases h
          · rw [List.getElem?_set_ne ij] at h
            exact h
        exact r.uniq j k q ys zs h1 h2 (back j _ h3) (back k _ h4)
end
end DD

set_option maxHeartbeats 3999999
namespace DD
open PySem PySem.Spec PyProof.Rows L2 GG
section
variable {K : PySem.W.Frag} {b : BP} {M0 O O1 : Addr → Prop} {H0 H H1 : Hp} {Qa : En → Prop} {P : LSt → Hp → Prop}
theorem Nxt.from (k : Nxt K M0 b H0 O H Qa P) (s : Same (Fz (MO M0 O) H) (Fz (MO M0 O1) H1)) : Nxt K M0 b H0 O1 H1 Qa P :=
  fun O' σ' H' env' r s' q => k O' σ' H' env' r (s.trans s') q
end
section
variable {K : PySem.W.Frag} {b : BP} {t u tbz : TS} {m m1 m2 : Ws} {te : TE} {me : Wm} {mf : Wf} {tt : TT} {mt : Wt} {g : TG} {gs : TGs} {mg : Wg} {mgs : Wgs}
/-! ### statements in a row -/
def nxtW : Ws := fun env Q => Q (.nx env)
def brkW : Ws := fun env Q => Q (.bk env)
def cntW : Ws := fun env Q => Q (.ct env)
theorem snd_next : SndS K b tNext nxtW := fun M0 H0 O σ H env r Qa h D k1 _ _ _ _ => k1 O σ H env r (Same.refl _) h
theorem snd_brk : SndS K b tBreak brkW := fun M0 H0 O σ H env r Qa h D _ k _ _ _ => k O σ H env r (Same.refl _) h
theorem snd_cnt : SndS K b tCont cntW := fun M0 H0 O σ H env r Qa h D _ _ k _ _ => k O σ H env r (Same.refl _) h
def thenW (m2 : Ws) (Q : Out → Prop) : Out → Prop
  | .nx e => m2 e Q
  | o => Q o
def seqW (m1 m2 : Ws) : Ws := fun env Q => m1 env (thenW m2 Q)
theorem snd_seq (h1 : SndS K b t m1) (h2 : SndS K b u m2) : SndS K b (tSeq t u) (seqW m1 m2) := by
  intro M0 H0 O σ H env r Qa h D k1 k2 k3 k4 k5
  refine h1 M0 H0 O σ H env r _ h _ ?_ k2 k3 k4 k5
  intro O' σ' H' env' r' s q
  exact h2 M0 H0 O' σ' H' env' r' _ q D (k1.from s) (k2.from s) (k3.from s) k4 k5
def iffW (mt : Wt) (m1 m2 : Ws) : Ws := fun env Q => mt env fun c => if c = true then m1 env Q else m2 env Q
theorem snd_ifS (hc : SndT K b tt mt) (h1 : SndS K b t m1) (h2 : SndS K b u m2) : SndS K b (tIfS tt t u) (iffW mt m1 m2) := by
  intro M0 H0 O σ H env r Qa h D k1 k2 k3 k4 k5
  refine hc M0 H0 O σ H env r _ h _ ?_
  intro c H1 f g q
  have s := f.fz (M := MO M0 O) r.mbO
  cases c with
  | true => exact h1 M0 H0 O σ H1 env (r.after f g) _ q D (k1.from s) (k2.from s) (k3.from s) k4 k5
  | false => exact h2 M0 H0 O σ H1 env (r.after f g) _ q D (k1.from s) (k2.from s) (k3.from s) k4 k5
/-! ### return -/
def retW (me : Wm) : Ws := fun env Q => me env fun w => w.isL = false ∧ Q (.rt w)
theorem snd_ret (h : Snd K b te me) : SndS K b (tRet te) (retW me) := by
  intro M0 H0 O σ H env r Qa hmz D k1 k2 k3 k4 k5
  refine h M0 H0 O σ H env r _ hmz _ ?_
  intro v w H' f g rp ⟨nl, q⟩
  refine k4 v w H' (r.frm.trans f) g ?_ q
  cases w with
  | d x => exact dp_mono (fz_same fun a o n e => ⟨fun z => n (.inl z), e⟩) _ _ rp
  | l xs => cases nl
  | bag => exact rp
theorem RepF.back {M O : Addr → Prop} {H0 H H' : Hp} {v : V} {xs : List PD} (f : Frm b H0 H) (g : Bag b H) (rp : RepF K (MO M O) H H' v xs) : RepF K M H0 H' v xs := by
  obtain ⟨p, vs, rfl, n, hpz, dp⟩ := rp
  have pb : Off b p := g.off n
  refine ⟨p, vs, rfl, f.free n pb, hpz, dpAll_mono (fz_same ?_) _ _ dp⟩
  intro a o z e
  refine ⟨?_, e⟩
  rintro (m | m)
  · exact z (.inl (.inl m))
  · exact z (.inr m)
def retFW (mf : Wf) : Ws := fun env Q => mf env fun xs => Q (.rf xs)
theorem snd_retF (h : SndF K b te mf) : SndS K b (tRet te) (retFW mf) := by
  intro M0 H0 O σ H env r Qa hmz D k1 k2 k3 k4 k5
  refine h M0 H0 O σ H env r _ hmz _ ?_
  intro v xs H' f g rp q
  exact k5 v xs H' (r.frm.trans f) g (rp.back r.frm r.bag) q
/-- return of a list of one's own -/
def retOW (i : Nat) : Ws := fun env Q => ∃ xs, env[i]? = some (.own xs) ∧ Q (.rf xs)
theorem snd_retO {i : Nat} : SndS K b (tRet (tVar i)) (retOW i) := by
  intro M0 H0 O σ H env r Qa hmz D k1 k2 k3 k4 k5
  obtain ⟨xs, e, q⟩ := hmz
  have hi : i < σ.length := r.len ▸ (List.getElem?_eq_some_iff.mp e).1
  obtain ⟨p, vs, ez1, op, hpz, dp⟩ := r.slot i _ _ (List.getElem?_eq_getElem hi) e
  refine ⟨.ref p, by rw [List.getElem?_eq_getElem hi, ez1], k5 _ xs H r.frm r.bag ⟨p, vs, rfl, (r.own p op).1, hpz, dpAll_mono (fz_same ?_) _ _ dp⟩ q⟩
  intro a o n e
  refine ⟨?_, e⟩
  rintro (m | rfl)
  · exact n (.inl m)
  · exact n (.inr op)
def retNW : Ws := fun _ Q => Q (.rt (.d .none))
theorem snd_retN : SndS K b tRetN retNW := fun M0 H0 O σ H env r Qa hmz D k1 k2 k3 k4 k5 => k4 .non (.d .none) H r.frm r.bag Dq.non hmz
/-! ### x = e -/
def setW (i : Nat) (me : Wm) : Ws := fun env Q => me env fun w => w.isL = false ∧ Q (.nx (env.set i (.v w)))
theorem snd_set {i : Nat} (h : Snd K b te me) : SndS K b (tAsg te (gName i)) (setW i me) := by
  intro M0 H0 O σ H env r Qa hmz D k1 k2 k3 k4 k5
  refine h M0 H0 O σ H env r _ hmz _ ?_
  intro v w H' f g rp ⟨nl, q⟩
  exact k1 O _ H' _ ((r.after f g).put i rp nl) (f.fz r.mbO) q
def setFW (i : Nat) (mf : Wf) : Ws := fun env Q => mf env fun xs => Q (.nx (env.set i (.own xs)))
theorem snd_setF {i : Nat} (h : SndF K b te mf) : SndS K b (tAsg te (gName i)) (setFW i mf) := by
  intro M0 H0 O σ H env r Qa hmz D k1 k2 k3 k4 k5
  refine h M0 H0 O σ H env r _ hmz _ ?_
  intro v xs H' f g rp q
  obtain ⟨p, rfl, r', s⟩ := r.make i f g rp
  exact k1 _ _ H' _ r' s q
/-! ### targets -/
def gnW (i : Nat) : Wg := fun wi env Q => ∃ d, wi = .d d ∧ Q (env.set i (.v (.d d)))
theorem sg_name {i : Nat} : SndG K b (gName i) (gnW i) := by
  rintro M0 H0 O σ H env v wi r dp Qa ⟨d, rfl, h⟩ Q k
  exact k _ _ (r.put i (w := .d d) dp rfl) h
def gnilW : Wgs := fun ds env Q => ds = [] ∧ Q env
theorem sg_nil : SndGs K b gNil gnilW := by
  intro M0 H0 O σ H env vs ds r dp Qa h Q k
  obtain ⟨rfl, q⟩ := h
  cases dp
  exact ⟨rfl, k σ env r q⟩
def gconsW (mg : Wg) (mgs : Wgs) : Wgs := fun ds env Q => ∃ d r, ds = d :: r ∧ mg (.d d) env fun env' => mgs r env' Q
theorem sg_cons (h1 : SndG K b g mg) (h2 : SndGs K b gs mgs) : SndGs K b (gCons g gs) (gconsW mg mgs) := by
  intro M0 H0 O σ H env vs ds r dp Qa h Q k
  obtain ⟨d, rs, rfl, h⟩ := h
  cases dp with
  | cons dp1 dp2 =>
    refine ⟨_, _, rfl, h1 M0 H0 O σ H env _ (.d d) r dp1 _ h _ ?_⟩
    intro σ' env' r' q
    exact h2 M0 H0 O σ' H env' _ rs r' dp2 _ q Q k
def gtupW (n : Nat) (mgs : Wgs) : Wg := fun wi env Q => ∃ ds, wi.parts = some ds ∧ ds.length = n ∧ mgs ds env Q
theorem sg_tup {n : Nat} (h : SndGs K b gs mgs) : SndG K b (gTup K n gs) (gtupW n mgs) := by
  intro M0 H0 O σ H env v wi r rp Qa hmz Q k
  obtain ⟨ds, e, hlz0, hmz⟩ := hmz
  cases wi with
  | d x =>
    cases x <;> try cases e
    have rp : Dq K (Fz (MO M0 O) H) v (.tuple ds) := rp
    cases rp with
    | tup hsv0 haz => exact ⟨_, _, rfl, (hsv0.mono fz_sub).sq, by rw [dpAll_len haz]; exact hlz0, h M0 H0 O σ H env _ ds r haz _ hmz Q k⟩
  | p x y =>
    obtain rfl := Option.some.inj e
    obtain ⟨T, vx, vy, rfl, hsv0, dx, dy⟩ := rp
    exact ⟨T, _, rfl, hsv0, hlz0, h M0 H0 O σ H env _ _ r (.cons dx (.cons dy .nil)) _ hmz Q k⟩
/-- a, b = e -/
def unpW (me : Wm) (mg : Wg) : Ws := fun env Q => me env fun w => ∃ d, w = .d d ∧ mg (.d d) env fun env' => Q (.nx env')
theorem snd_unp (h : Snd K b te me) (hgz : SndG K b g mg) : SndS K b (tAsg te g) (unpW me mg) := by
  intro M0 H0 O σ H env r Qa hmz D k1 k2 k3 k4 k5
  refine h M0 H0 O σ H env r _ hmz _ ?_
  rintro v w H' f g' rp ⟨d, rfl, q⟩
  refine hgz M0 H0 O σ H' env v (.d d) (r.after f g') rp _ q _ ?_
  intro σ' env' r' q
  exact k1 O σ' H' env' r' (f.fz r.mbO) q
/-! ### a list of one's own changed -/
theorem tyL {H : Hp} {p : Addr} {xs : List V} (h : H p = some (.lst xs)) : tyV K "list" (.ref p) H := .inl ⟨rfl, xs, SqL.of h⟩
def appW (i : Nat) (me : Wm) : Ws := fun env Q => ∃ xs, env[i]? = some (.own xs) ∧ me env fun w => ∃ d, w = .d d ∧ xs.length < sizeLine ∧ Q (.nx (env.set i (.own (xs ++ [d]))))
theorem snd_app {i : Nat} (h : Snd K b te me) : SndS K b (tDrop (tBM K "list" rAppend (tVar i) (tCons te tNil))) (appW i me) := by
  intro M0 H0 O σ H env r Qa hmz D k1 k2 k3 k4 k5
  obtain ⟨xs, e, hmz⟩ := hmz
  have hi : i < σ.length := r.len ▸ (List.getElem?_eq_some_iff.mp e).1
  obtain ⟨p, vs, ez1, op, hpz, dp⟩ := r.slot i _ _ (List.getElem?_eq_getElem hi) e
  have hsv0 : σ[i]? = some (some (.ref p)) := by rw [List.getElem?_eq_getElem hi, ez1]
  refine ⟨_, hsv0, tyL hpz, ?_⟩
  refine h M0 H0 O σ H env r _ hmz _ ?_
  rintro v w H' f g rp ⟨d, rfl, hzz, q⟩
  have r' := r.after f g
  have hp' := f p _ (r.nb p op) hpz
  have dp' := dpAll_mono (f.fz (M := MO M0 O) r.mbO) _ _ dp
  refine ⟨p, vs, v, rfl, rfl, hp', by rw [dpAll_len dp]; exact hzz, ?_⟩
  obtain ⟨r2, s2⟩ := r'.change hsv0 e (dpAll_app dp' (.cons rp .nil))
  exact k1 O σ _ _ r2 ((f.fz r.mbO).trans s2) q
def insW (i : Nat) (ma me : Wm) : Ws := fun env Q => ∃ xs, env[i]? = some (.own xs) ∧ ma env fun wi => me env fun w => ∃ (n : Int) (d : PD), wi = .d (.int n) ∧ w = .d d ∧ xs.length < sizeLine ∧ 0 ≤ n ∧ n < 2 ^ 63 ∧ Q (.nx (env.set i (.own (xs.take n.toNat ++ [d] ++ xs.drop n.toNat))))
theorem snd_ins {i : Nat} {ta : TE} {ma : Wm} (haz : Snd K b ta ma) (h : Snd K b te me) : SndS K b (tDrop (tBM K "list" (fun x vs H Q => ∃ (l : Addr) (xs : List V) (i : Int) (y : V), x = .ref l ∧ vs = [.int i, y] ∧ H l = some (.lst xs) ∧ xs.length < sizeLine ∧ 0 ≤ i ∧ i < 2 ^ 63 ∧
    Q .non (upd H l (.lst (xs.take i.toNat ++ [y] ++ xs.drop i.toNat)))) (tVar i) (tCons ta (tCons te tNil)))) (insW i ma me) := by
  intro M0 H0 O σ H env r Qa hmz D k1 k2 k3 k4 k5
  obtain ⟨xs, e, hmz⟩ := hmz
  have hi : i < σ.length := r.len ▸ (List.getElem?_eq_some_iff.mp e).1
  obtain ⟨p, vs, ez1, op, hpz, dp⟩ := r.slot i _ _ (List.getElem?_eq_getElem hi) e
  have hsv0 : σ[i]? = some (some (.ref p)) := by rw [List.getElem?_eq_getElem hi, ez1]
  refine ⟨_, hsv0, tyL hpz, ?_⟩
  refine haz M0 H0 O σ H env r _ hmz _ ?_
  intro v0 w0 H1 f1 g1 rp1 hm1
  refine h M0 H0 O σ H1 env (r.after f1 g1) _ hm1 _ ?_
  rintro v w H' f2 g2 rp ⟨n, d, rfl, rfl, hzz, h0, h63, q⟩
  have f := f1.trans f2
  have r' := r.after f g2
  have hp' := f p _ (r.nb p op) hpz
  have dp' := dpAll_mono (f.fz (M := MO M0 O) r.mbO) _ _ dp
  obtain rfl := repInt rp1
  refine ⟨p, vs, n, v, rfl, rfl, hp', by rw [dpAll_len dp]; exact hzz, h0, h63, ?_⟩
  obtain ⟨r2, s2⟩ := r'.change hsv0 e (dpAll_app (dpAll_app (dpAll_take n.toNat dp') (.cons rp .nil)) (dpAll_drop n.toNat dp'))
  exact k1 O σ _ _ r2 ((f.fz r.mbO).trans s2) q
/-- xs.extend(e), e a new list -/
def extW (i : Nat) (mf : Wf) : Ws := fun env Q => ∃ xs, env[i]? = some (.own xs) ∧ mf env fun ys => xs.length + ys.length ≤ sizeLine ∧ Q (.nx (env.set i (.own (xs ++ ys))))
theorem snd_ext {i : Nat} (h : SndF K b te mf) : SndS K b (tDrop (tBM K "list" rExtend (tVar i) (tCons te tNil))) (extW i mf) := by
  intro M0 H0 O σ H env r Qa hmz D k1 k2 k3 k4 k5
  obtain ⟨xs, e, hmz⟩ := hmz
  have hi : i < σ.length := r.len ▸ (List.getElem?_eq_some_iff.mp e).1
  obtain ⟨p, vs, ez1, op, hpz, dp⟩ := r.slot i _ _ (List.getElem?_eq_getElem hi) e
  have hsv0 : σ[i]? = some (some (.ref p)) := by rw [List.getElem?_eq_getElem hi, ez1]
  refine ⟨_, hsv0, tyL hpz, ?_⟩
  refine h M0 H0 O σ H env r _ hmz _ ?_
  rintro v ys H' f g ⟨a, us, rfl, na, haz, dq⟩ ⟨hzz, q⟩
  have r' := r.after f g
  have hp' := f p _ (r.nb p op) hpz
  have dp' := dpAll_mono (f.fz (M := MO M0 O) r.mbO) _ _ dp
  refine ⟨p, a, vs, us, rfl, rfl, hp', haz, by rw [dpAll_len dp, dpAll_len dq]; exact hzz, ?_⟩
  obtain ⟨r2, s2⟩ := r'.change hsv0 e (dpAll_app dp' (dpAll_mono (fz_same fun a o n e => ⟨fun z => n (.inl z), e⟩) _ _ dq))
  exact k1 O σ _ _ r2 ((f.fz r.mbO).trans s2) q
/-- a list of one's own stands still from now on -/
def relW (i : Nat) (m : Ws) : Ws := fun env Q => m (env.modify i relE) Q
theorem snd_rel (i : Nat) (h : SndS K b t m) : SndS K b t (relW i m) := by
  intro M0 H0 O σ H env r Qa hmz D k1 k2 k3 k4 k5
  obtain ⟨O', r', s⟩ := r.release i
  exact h M0 H0 O' σ H _ r' _ hmz D (k1.from s) (k2.from s) (k3.from s) k4 k5
/-- an expression alone -/
def dropW (me : Wm) : Ws := fun env Q => me env fun _ => Q (.nx env)
theorem snd_drop (h : Snd K b te me) : SndS K b (tDrop te) (dropW me) := by
  intro M0 H0 O σ H env r Qa hmz D k1 k2 k3 k4 k5
  refine h M0 H0 O σ H env r _ hmz _ ?_
  intro v w H' f g rp q
  exact k1 O σ H' env (r.after f g) (f.fz r.mbO) q
/-! ### for -/
def turnW (lp : En → (Out → Prop) → Prop) (Q : Out → Prop) : Out → Prop
  | .nx e => lp e Q
  | .ct e => lp e Q
  | .bk e => Q (.nx e)
  | o => Q o
abbrev Wi := En → (List WI → Prop) → Prop
def loopW (mg : Wg) (mb : Ws) : List WI → Ws
  | [], env, Q => Q (.nx env)
  | d :: ds, env, Q => mg d env fun env1 => mb env1 (turnW (loopW mg mb ds) Q)
/-- between two turns -/
def LInv (K : PySem.W.Frag) (b : BP) (M0 : Addr → Prop) (H0 : Hp) (O1 : Addr → Prop) (H1 : Hp) (mg : Wg) (mb : Ws) (ds : List WI) (Qa : Out → Prop) (i : Nat) (σ : LSt) (H : Hp) : Prop :=
  ∃ O env, ER K M0 b H0 O σ H env ∧ Same (Fz (MO M0 O1) H1) (Fz (MO M0 O) H) ∧ loopW mg mb (ds.drop i) env Qa
theorem sqL_sub {M : Addr → Prop} {H : Hp} {a : Addr} {xs : List V} (h : SqL K (Fz M H) a xs) : SqL K H a xs := fz_sub.seq h
theorem sqT_mono {H H' : Hp} {a : Addr} {xs : List V} (s : Same H H') (h : SqT K H a xs) : SqT K H' a xs := by
  rcases h with (h | ⟨o, h⟩) | h
  · exact .inl (.inl (s _ _ h))
  · exact .inl (.inr ⟨o, s _ _ h⟩)
  · exact .inr h
/-- J walks over the data ds, as long as what stands in Fz M H stands -/
def IsW (K : PySem.W.Frag) (M : Addr → Prop) (H : Hp) (J : It) (ds : List WI) : Prop := ∃ (G : Hp → Prop) (Y : Nat → Hp → V → Hp → Prop), Walk J ds.length G Y ∧
  ∀ (M' : Addr → Prop) (H' : Hp), Same (Fz M H) (Fz M' H') → (∀ a, M' a → H' a ≠ none) → G H' ∧ ∀ i x Hx, i < ds.length → Y i H' x Hx → ∃ d, ds[i]? = some d ∧ Same H' Hx ∧ RepI K M' Hx x d ∧ ∀ a ps, Hx a = some (.tbl ps) → H' a = some (.tbl ps)
def SndI (K : PySem.W.Frag) (b : BP) (wi : TI) (m : Wi) : Prop := ∀ (M0 : Addr → Prop) (H0 : Hp) (O : Addr → Prop) (σ : LSt) (H : Hp) (env : En), ER K M0 b H0 O σ H env → ∀ Qa : List WI → Prop, m env Qa →
  ∀ R : It → Hp → Prop, (∀ J ds H', Frm b H H' → Bag b H' → IsW K (MO M0 O) H' J ds → Qa ds → R J H') → wi σ H R
theorem frm_of {b : BP} {H H' : Hp} (s : Same H H') : Frm b H H' := fun a o _ e => s a o e
theorem Same.to {H H' : Hp} (k : ∀ a, H a ≠ none → H' a = H a) : Same H H' := fun a o e => (k a (by rw [e]; exact fun z => nomatch z)).trans e
def forW (mi : Wi) (mg : Wg) (mb : Ws) : Ws := fun env Q => mi env fun ds => loopW mg mb ds env Q
theorem snd_for {wi : TI} {mi : Wi} (h : SndI K b wi mi) (hgz : SndG K b g mg) (hb : SndS K b tbz m) : SndS K b (tFor wi g tbz) (forW mi mg m) := by
  intro M0 H0 O σ H env r Qa hmz D k1 k2 k3 k4 k5
  refine h M0 H0 O σ H env r _ hmz _ ?_
  rintro J ds H1 f g' ⟨G, Y, wk, hw⟩ q
  have s1 := f.fz (M := MO M0 O) r.mbO
  have k1' := k1.from s1
  refine for_it wk (LInv K b M0 H0 O H1 mg m ds Qa) ⟨O, env, r.after f g', Same.refl _, q⟩ ?_ ?_ ?_
  · rintro i σ' H' _ ⟨O', env', r', s, _⟩
    exact (hw _ H' s r'.domO).1
  · rintro i x σ' H' Hx hi ⟨O', env', r', s, h⟩ hy
    obtain ⟨d, hdz, sx, dx, kx⟩ := (hw _ H' s r'.domO).2 i x Hx hi hy
    have e : ds.drop i = d :: ds.drop (i + 1) := by
      obtain ⟨hlz0, hd'⟩ := List.getElem?_eq_some_iff.mp hdz
      rw [List.drop_eq_getElem_cons hlz0, hd']
    rw [e] at h
    have rxz := r'.after (frm_of sx) (r'.bag.ext sx kx)
    have sf : Same (Fz (MO M0 O') H') (Fz (MO M0 O') Hx) := fz_same fun a o n e => ⟨n, sx a o e⟩
    refine hgz M0 H0 O' σ' Hx env' x d rxz dx _ h _ ?_
    intro σ2 env2 r2 h2
    refine hb M0 H0 O' σ2 Hx env2 r2 _ h2 _ ?_ ?_ ?_ k4 k5
    · intro O2 σ3 H3 env3 r3 s3 q
      exact ⟨O2, env3, r3, (s.trans sf).trans s3, q⟩
    · intro O2 σ3 H3 env3 r3 s3 q
      exact k1' O2 σ3 H3 env3 r3 ((s.trans sf).trans s3) q
    · intro O2 σ3 H3 env3 r3 s3 q
      exact ⟨O2, env3, r3, (s.trans sf).trans s3, q⟩
  · rintro σ' H' ⟨O', env', r', s, q'⟩
    rw [List.drop_length] at q'
    exact k1' O' σ' H' env' r' s q'
/-! what is walked -/
def itLW (me : Wm) : Wi := fun env Q => me env fun w => ∃ ds, w = .d (.list ds) ∧ Q (ds.map WI.d)
def itTW (me : Wm) : Wi := fun env Q => me env fun w => ∃ ds, w = .d (.tuple ds) ∧ Q (ds.map WI.d)
theorem si_list (h : Snd K b te me) : SndI K b (iList K te) (itLW me) := by
  intro M0 H0 O σ H env r Qa hmz R k
  refine h M0 H0 O σ H env r _ hmz _ ?_
  rintro v w H1 f g' rp ⟨ds, rfl, q⟩
  have rp : Dq K (Fz (MO M0 O) H1) v (.list ds) := rp
  cases rp with
  | lst hsv0 dp =>
    rename_i a vs
    refine ⟨a, rfl, ⟨vs, sqL_sub hsv0⟩, k _ _ H1 f g' ⟨_, _, by rw [List.length_map]; exact dpAll_len dp ▸ walk_list, ?_⟩ q⟩
    intro M' H' s dom
    refine ⟨sqL_sub (s.seq hsv0), ?_⟩
    rintro i x Hx hi ⟨rfl, e⟩
    obtain ⟨d, hdz, dx⟩ := dpAll_get dp e
    exact ⟨.d d, by rw [List.getElem?_map, hdz]; rfl, Same.refl _, dp_mono s _ _ dx, fun _ _ e => e⟩
theorem si_tup (h : Snd K b te me) : SndI K b (iTup K te) (itTW me) := by
  intro M0 H0 O σ H env r Qa hmz R k
  refine h M0 H0 O σ H env r _ hmz _ ?_
  rintro v w H1 f g' rp ⟨ds, rfl, q⟩
  have rp : Dq K (Fz (MO M0 O) H1) v (.tuple ds) := rp
  cases rp with
  | tup hsv0 dp =>
    rename_i a vs
    refine ⟨a, rfl, ⟨vs, (hsv0.mono fz_sub).sq⟩, k _ _ H1 f g' ⟨_, _, by rw [List.length_map]; exact dpAll_len dp ▸ walk_tup, ?_⟩ q⟩
    intro M' H' s dom
    refine ⟨((hsv0.mono s).mono fz_sub).sq, ?_⟩
    rintro i x Hx hi ⟨rfl, e⟩
    obtain ⟨d, hdz, dx⟩ := dpAll_get dp e
    exact ⟨.d d, by rw [List.getElem?_map, hdz]; rfl, Same.refl _, dp_mono s _ _ dx, fun _ _ e => e⟩
def itRW (me : Wm) : Wi := fun env Q => me env fun w => ∃ n : Int, w = .d (.int n) ∧ -(2 ^ 62) ≤ n ∧ n < 2 ^ 62 ∧ Q ((List.range n.toNat).map fun i => .d (.int (i : Nat)))
theorem si_range (h : Snd K b te me) : SndI K b (iRng1 (tCons te tNil)) (itRW me) := by
  intro M0 H0 O σ H env r Qa hmz R k
  refine h M0 H0 O σ H env r _ hmz _ ?_
  rintro v w H1 f g' rp ⟨n, rfl, h1, h2, q⟩
  obtain rfl := repInt rp
  refine ⟨n, rfl, h1, h2, k _ _ H1 f g' ⟨_, _, by rw [List.length_map, List.length_range]; exact walk_range, ?_⟩ q⟩
  intro M' H' s dom
  refine ⟨trivial, ?_⟩
  rintro i x Hx hi ⟨rfl, rfl⟩
  rw [List.length_map, List.length_range] at hi
  refine ⟨.d (.int (i : Nat)), by rw [List.getElem?_map, List.getElem?_range hi]; rfl, Same.refl _, ?_, fun _ _ e => e⟩
  show Dq K _ (V.int (0 + (i : Int))) (PyData.int (i : Int))
  rw [Int.zero_add]
  exact Dq.int _
/-- pairs (i, x) -/
def itEW (me : Wm) : Wi := fun env Q => me env fun w => ∃ ds, w = .d (.list ds) ∧ Q (ds.mapIdx fun i d => .p (.int (i : Nat)) d)
theorem si_enum (h : Snd K b te me) : SndI K b (iEnum K (tCons te tNil)) (itEW me) := by
  intro M0 H0 O σ H env r Qa hmz R k
  refine h M0 H0 O σ H env r _ hmz _ ?_
  rintro v w H1 f g' rp ⟨ds, rfl, q⟩
  have rp : Dq K (Fz (MO M0 O) H1) v (.list ds) := rp
  cases rp with
  | lst hsv0 dp =>
    rename_i a vs
    refine ⟨a, vs, rfl, sqL_sub hsv0, k _ _ H1 f g' ⟨_, _, by rw [List.length_mapIdx]; exact dpAll_len dp ▸ walk_enum, ?_⟩ q⟩
    intro M' H' s dom
    refine ⟨sqL_sub (s.seq hsv0), ?_⟩
    rintro i x Hx hi ⟨T, x1, x2, rfl, nT, rfl, ez1, ez2⟩
    obtain ⟨d, hdz, dx⟩ := dpAll_get dp ez2
    obtain rfl := Option.some.inj ez1
    refine ⟨.p (.int (i : Nat)) d, by rw [List.getElem?_mapIdx, hdz]; rfl, fun a o e => by rw [upd_ne (ne_of_none e nT)]; exact e, ?_, nt_upd (by intro _ z; cases z)⟩
    exact ⟨T, _, _, rfl, SqT.of upd_same, .int _, dp_mono (s.trans (fz_new nT)) _ _ dx⟩
end
end DD

set_option maxHeartbeats 3999999
/-! comprehensions, calls of defs -/
namespace DD
open PySem PySem.Spec PyProof.Rows L2 GG
theorem fz_congr {M M' : Addr → Prop} (h : ∀ a, M a ↔ M' a) (H : Hp) : Fz M H = Fz M' H := by
  have e : M = M' := funext fun a => propext (h a)
  rw [e]
/-! ### a def's promise -/
/-- f, on what the arguments are worth -/
abbrev Fm := List W → (W → Prop) → Prop
abbrev FmF := List W → (List PD → Prop) → Prop
def spD (K : PySem.W.Frag) (b : BP) (n : Nat) (f : Fm) : Sp := fun vs H Q _ => vs.length = n ∧ ∃ (M : Addr → Prop) (ws : List W) (Qa : W → Prop), MB b M ∧ M b.2 ∧ (∀ a, M a → H a ≠ none) ∧ Bag b H ∧ Paired (RepW K M b H) vs ws ∧ f ws Qa ∧
  ∀ v w H', Frm b H H' → Bag b H' → RepW K M b H' v w → Qa w → Q v H'
def spF (K : PySem.W.Frag) (b : BP) (n : Nat) (f : FmF) : Sp := fun vs H Q _ => vs.length = n ∧ ∃ (M : Addr → Prop) (ws : List W) (Qa : List PD → Prop), MB b M ∧ M b.2 ∧ (∀ a, M a → H a ≠ none) ∧ Bag b H ∧ Paired (RepW K M b H) vs ws ∧ f ws Qa ∧
  ∀ v xs H', Frm b H H' → Bag b H' → RepF K M H H' v xs → Qa xs → Q v H'
def env0 (n : Nat) (ws : List W) : En := ws.map E.v ++ List.replicate (n - ws.length) E.un
def outV (Q : W → Prop) : Out → Prop
  | .rt w => Q w
  | .nx _ => Q (.d .none)
  | _ => False
def outF (Q : List PD → Prop) : Out → Prop
  | .rf xs => Q xs
  | _ => False
def bodyW (n : Nat) (m : Ws) : Fm := fun ws Q => m (env0 n ws) (outV Q)
def bodyF (n : Nat) (m : Ws) : FmF := fun ws Q => m (env0 n ws) (outF Q)
theorem paired_get {α β : Type} {R : α → β → Prop} : ∀ {xs : List α} {ys : List β} {i : Nat} {x : α} {y : β}, Paired R xs ys → xs[i]? = some x → ys[i]? = some y → R x y
  | _, _, _, _, _, .nil, e, _ => by simp at e
  | _, _, 0, _, _, .cons r _, ez1, ez2 => by
    obtain rfl := Option.some.inj ez1
    obtain rfl := Option.some.inj ez2
    exact r
  | _, _, i + 1, _, _, .cons _ s, ez1, ez2 => paired_get (i := i) s ez1 ez2
theorem er0 {K : PySem.W.Frag} {b : BP} {M : Addr → Prop} {H : Hp} {vs : List V} {ws : List W} {N : List Str} (m1 : MB b M) (m2 : M b.2) (dom : ∀ a, M a → H a ≠ none) (g : Bag b H) (p : Paired (RepW K M b H) vs ws) :
    ER K M b H (fun _ => False) (L2.start N vs) H (env0 N.length ws) := by
  have plz := Paired.length p
  have mo : ∀ a, MO M (fun _ => False) a ↔ M a := fun a => ⟨fun z => z.elim id False.elim, .inl⟩
  refine ⟨m1, m2, dom, Frm.refl _ _, g, ?_, fun _ z => z.elim, ?_, ?_⟩
  · unfold L2.start env0
    rw [List.length_append, List.length_append, List.length_map, List.length_map, List.length_replicate, List.length_replicate, plz]
  · intro i s e h1 h2
    unfold L2.start at h1
    unfold env0 at h2
    by_cases hi : i < vs.length
    · rw [List.getElem?_append_left (by rw [List.length_map]; exact hi), List.getElem?_map] at h1
      rw [List.getElem?_append_left (by rw [List.length_map, ← plz]; exact hi), List.getElem?_map] at h2
      cases ev : vs[i]? with
      | none =>
        rw [ev] at h1
        cases h1
      | some v =>
        cases ew : ws[i]? with
        | none =>
          rw [ew] at h2
          cases h2
        | some w =>
          rw [ev] at h1
          rw [ew] at h2
          obtain rfl := Option.some.inj h1
          obtain rfl := Option.some.inj h2
          refine ⟨v, rfl, ?_, fun _ _ z => z.elim⟩
          have rp := paired_get p ev ew
          have fe : Fz (MO M fun _ => False) H = Fz M H := fz_congr mo H
          cases w with
          | d x => exact (show Dq K (Fz (MO M fun _ => False) H) v x from fe ▸ rp)
          | l xs =>
            obtain ⟨a, us, ez1, ez2, e3, e4⟩ := rp
            exact ⟨a, us, ez1, ez2, e3, fe ▸ e4⟩
          | bag => exact rp
    · rw [List.getElem?_append_right (by rw [List.length_map, ← plz]; omega), List.getElem?_replicate] at h2
      split at h2
      · obtain rfl := Option.some.inj h2
        trivial
      · cases h2
  · intro i j p' xs ys h1 h2 h3 h4
    have no : ∀ (i : Nat) (xs : List PD), (env0 N.length ws)[i]? ≠ some (.own xs) := by
      intro i xs h
      unfold env0 at h
      by_cases hi : i < (ws.map E.v).length
      · rw [List.getElem?_append_left hi, List.getElem?_map] at h
        cases e : ws[i]? with
        | none =>
          rw [e] at h
          cases h
        | some w =>
          rw [e] at h
          cases h
      · rw [List.getElem?_append_right (by omega), List.getElem?_replicate] at h
        split at h
        · cases h
        · cases h
    exact (no i xs h3).elim
section
variable {P : Program} {w : World} {K : PySem.W.Frag} {mg : Str → Option Value} {base : Heap} {k : Nat} {f : Addr} {fd : FuncData} {ps : List Str} {b : BP}
/-- THE RULE of a def -/
theorem def_ok {x qual : Str} {st : Stmt} {N : List Str} {m : Ws} (F : L2.Fun K x qual st f fd) (S : FnScope N ps (defScope st))
    (hb : ∀ (cdv : Value) (A : Around) (o : List Env) (s : Shared) (H : Hp) (E : XK), Rm k (A.deeper (envOfC qual (defScope st) s.heap.objs.size f cdv)) →
      ∃ t, PSs (cxOf CX0 P w K mg base N qual (defScope st) f cdv A o s H E) (defBody st) t ∧ SndS K b t m) : GFn P w K mg base CX0 (k + 1) f fd ps (spD K b ps.length (bodyW N.length m)) := by
  refine okG F S (fun vs H Q E h => h.1) ?_
  intro cdv A o s H vs Q E rm h
  obtain ⟨t, ht, hsv0⟩ := hb cdv A o s H E rm
  obtain ⟨_, M, ws, Qa, m1, m2, dom, g, p, hmz, k4⟩ := h
  refine ⟨t, ht, hsv0 M H _ _ H _ (er0 m1 m2 dom g p) _ hmz _ ?_ ?_ ?_ ?_ ?_⟩
  · intro O' σ' H' env' r _ q
    exact k4 .non (.d .none) H' r.frm r.bag Dq.non q
  · intro _ _ _ _ _ _ q
    exact q.elim
  · intro _ _ _ _ _ _ q
    exact q.elim
  · exact k4
  · intro _ _ _ _ _ _ q
    exact q.elim
theorem def_okF {x qual : Str} {st : Stmt} {N : List Str} {m : Ws} (F : L2.Fun K x qual st f fd) (S : FnScope N ps (defScope st))
    (hb : ∀ (cdv : Value) (A : Around) (o : List Env) (s : Shared) (H : Hp) (E : XK), Rm k (A.deeper (envOfC qual (defScope st) s.heap.objs.size f cdv)) →
      ∃ t, PSs (cxOf CX0 P w K mg base N qual (defScope st) f cdv A o s H E) (defBody st) t ∧ SndS K b t m) : GFn P w K mg base CX0 (k + 1) f fd ps (spF K b ps.length (bodyF N.length m)) := by
  refine okG F S (fun vs H Q E h => h.1) ?_
  intro cdv A o s H vs Q E rm h
  obtain ⟨t, ht, hsv0⟩ := hb cdv A o s H E rm
  obtain ⟨_, M, ws, Qa, m1, m2, dom, g, p, hmz, k4⟩ := h
  refine ⟨t, ht, hsv0 M H _ _ H _ (er0 m1 m2 dom g p) _ hmz _ ?_ ?_ ?_ ?_ ?_⟩
  · intro O' σ' H' env' r _ q
    exact q.elim
  · intro _ _ _ _ _ _ q
    exact q.elim
  · intro _ _ _ _ _ _ q
    exact q.elim
  · intro _ _ _ _ _ _ q
    exact q.elim
  · exact k4
end
section
variable {K : PySem.W.Frag} {b : BP} {t ta tbz te : TE} {tt uu : TT} {tas : TA} {m ma mb me : Wm} {ms : Wl} {mt mu : Wt} {mf : Wf}
/-! ### calls -/
def callW (n : Nat) (f : Fm) (ms : Wl) : Wm := fun env Q => ms env fun ws => ws.length = n ∧ f ws Q
theorem snd_call {n : Nat} {f : Fm} (h : SndA K b tas ms) : Snd K b (tCall (spD K b n f) [] E0 tas) (callW n f ms) := by
  intro M0 H0 O σ H env r Qa hmz Q k
  refine h M0 H0 O σ H env r _ hmz _ ?_
  rintro vs ws H' f' g rp ⟨hlz0, q⟩
  have r' := r.after f' g
  refine ⟨by rw [List.append_nil, Paired.length rp, hlz0], MO M0 O, ws, Qa, r.mbO, .inl r.mc, r'.domO, g, by rw [List.append_nil]; exact rp, q, ?_⟩
  intro v w H2 f2 g2 r2 q2
  exact k v w H2 (f'.trans f2) g2 r2 q2
def callF (n : Nat) (f : FmF) (ms : Wl) : Wf := fun env Q => ms env fun ws => ws.length = n ∧ f ws Q
theorem RepF.pre {M : Addr → Prop} {H H1 H2 : Hp} {v : V} {xs : List PD} (f : Frm b H H1) (g : Bag b H1) (rp : RepF K M H1 H2 v xs) : RepF K M H H2 v xs := by
  obtain ⟨p, vs, e, n, h, d⟩ := rp
  exact ⟨p, vs, e, f.free n (g.off n), h, d⟩
theorem snd_callF {n : Nat} {f : FmF} (h : SndA K b tas ms) : SndF K b (tCall (spF K b n f) [] E0 tas) (callF n f ms) := by
  intro M0 H0 O σ H env r Qa hmz Q k
  refine h M0 H0 O σ H env r _ hmz _ ?_
  rintro vs ws H' f' g rp ⟨hlz0, q⟩
  have r' := r.after f' g
  refine ⟨by rw [List.append_nil, Paired.length rp, hlz0], MO M0 O, ws, Qa, r.mbO, .inl r.mc, r'.domO, g, by rw [List.append_nil]; exact rp, q, ?_⟩
  intro v xs H2 f2 g2 r2 q2
  exact k v xs H2 (f'.trans f2) g2 (r2.pre f' g) q2
/-! a built-in by values -/
def RC (K : PySem.W.Frag) (b : BP) (r : List V → Hp → VK → Prop) (f : List W → (W → Prop) → Prop) : Prop := ∀ (M : Addr → Prop) (H : Hp) (vs : List V) (ws : List W), MB b M → (∀ a, M a → H a ≠ none) → Bag b H → Paired (RepW K M b H) vs ws → ∀ Qa, f ws Qa →
  ∀ Q : VK, (∀ v w H', Frm b H H' → Bag b H' → RepW K M b H' v w → Qa w → Q v H') → r vs H Q
def RCF (K : PySem.W.Frag) (b : BP) (r : List V → Hp → VK → Prop) (f : List W → (List PD → Prop) → Prop) : Prop := ∀ (M : Addr → Prop) (H : Hp) (vs : List V) (ws : List W), MB b M → (∀ a, M a → H a ≠ none) → Bag b H → Paired (RepW K M b H) vs ws → ∀ Qa, f ws Qa →
  ∀ Q : VK, (∀ v xs H', Frm b H H' → Bag b H' → RepF K M H H' v xs → Qa xs → Q v H') → r vs H Q
def cbW (f : List W → (W → Prop) → Prop) (ms : Wl) : Wm := fun env Q => ms env fun ws => f ws Q
def cbF (f : List W → (List PD → Prop) → Prop) (ms : Wl) : Wf := fun env Q => ms env fun ws => f ws Q
theorem snd_cb {r : List V → Hp → VK → Prop} {f : List W → (W → Prop) → Prop} (hr : RC K b r f) (h : SndA K b tas ms) : Snd K b (tCB r tas) (cbW f ms) := by
  intro M0 H0 O σ H env e Qa hmz Q k
  refine h M0 H0 O σ H env e _ hmz _ ?_
  intro vs ws H' f' g rp q
  refine hr (MO M0 O) H' vs ws e.mbO (e.after f' g).domO g rp _ q _ ?_
  intro v w H2 f2 g2 r2 q2
  exact k v w H2 (f'.trans f2) g2 r2 q2
theorem snd_cbF {r : List V → Hp → VK → Prop} {f : List W → (List PD → Prop) → Prop} (hr : RCF K b r f) (h : SndA K b tas ms) : SndF K b (tCB r tas) (cbF f ms) := by
  intro M0 H0 O σ H env e Qa hmz Q k
  refine h M0 H0 O σ H env e _ hmz _ ?_
  intro vs ws H' f' g rp q
  refine hr (MO M0 O) H' vs ws e.mbO (e.after f' g).domO g rp _ q _ ?_
  intro v xs H2 f2 g2 r2 q2
  exact k v xs H2 (f'.trans f2) g2 (r2.pre f' g) q2
/-! ### comprehensions -/
theorem wipe_set {σ : LSt} {i : Nat} {v : Option V} : ∀ {vs : List Nat}, i ∈ vs → wipe (σ.set i v) vs = wipe σ vs
  | [], h => by cases h
  | j :: vs, h => by
    unfold wipe
    by_cases hj : i ∈ vs
    · rw [wipe_set hj]
    · have e : i = j := (List.mem_cons.mp h).resolve_right hj
      subst e
      apply List.ext_getElem?
      intro n
      by_cases hnz : i = n
      · subst hnz
        rw [List.getElem?_set, List.getElem?_set, wipe_length, wipe_length, List.length_set, if_pos rfl, if_pos rfl]
      · rw [List.getElem?_set_ne hnz, List.getElem?_set_ne hnz]
        by_cases hv : n ∈ vs
        · have z : ∀ (τ : LSt) (us : List Nat), n ∈ us → n < τ.length → (wipe τ us)[n]? = some none := by
            intro τ us
            induction us with
            | nil => intro h; cases h
            | cons u us ih =>
              intro h hlz0
              unfold wipe
              by_cases un : u = n
              · subst un
                rw [List.getElem?_set_self (by rw [wipe_length]; exact hlz0)]
              · rw [List.getElem?_set_ne un]
                exact ih ((List.mem_cons.mp h).resolve_left (Ne.symm un)) hlz0
          by_cases hlz0 : n < σ.length
          · rw [z _ _ hv (by rw [List.length_set]; exact hlz0), z _ _ hv hlz0]
          · rw [List.getElem?_eq_none_iff.mpr (by rw [wipe_length, List.length_set]; omega), List.getElem?_eq_none_iff.mpr (by rw [wipe_length]; omega)]
        · rw [wipe_out hv, wipe_out hv, List.getElem?_set_ne hnz]
theorem wipe_wipe {σ : LSt} : ∀ {us vs : List Nat}, (∀ i ∈ us, i ∈ vs) → wipe (wipe σ us) vs = wipe σ vs
  | [], _, _ => rfl
  | u :: us, vs, h => by
    show wipe ((wipe σ us).set u none) vs = wipe σ vs
    rw [wipe_set (h u List.mem_cons_self), wipe_wipe fun i hi => h i (List.mem_cons_of_mem _ hi)]
/-- the target's slots -/
structure GIn (g : TG) (vs : List Nat) : Prop where
  mono : ∀ v σ H Q Q', (∀ σ' H', Q σ' H' → Q' σ' H') → g v σ H Q → g v σ H Q'
  wip : ∀ v σ H Q, g v σ H Q → g v σ H fun σ' H' => wipe σ' vs = wipe σ vs ∧ Q σ' H'
structure GIns (g : TGs) (vs : List Nat) : Prop where
  mono : ∀ us σ H Q Q', (∀ σ' H', Q σ' H' → Q' σ' H') → g us σ H Q → g us σ H Q'
  wip : ∀ us σ H Q, g us σ H Q → g us σ H fun σ' H' => wipe σ' vs = wipe σ vs ∧ Q σ' H'
theorem gin_name {i : Nat} {vs : List Nat} (h : i ∈ vs := by simp) : GIn (gName i) vs := ⟨fun v σ H Q Q' k q => k _ _ q, fun v σ H Q q => ⟨wipe_set h, q⟩⟩
theorem gin_nil {vs : List Nat} : GIns gNil vs := ⟨fun us σ H Q Q' k q => ⟨q.1, k _ _ q.2⟩, fun us σ H Q q => ⟨q.1, rfl, q.2⟩⟩
theorem gin_cons {g : TG} {gs : TGs} {vs : List Nat} (h1 : GIn g vs) (h2 : GIns gs vs) : GIns (gCons g gs) vs := by
  constructor
  · rintro us σ H Q Q' k ⟨v, r, rfl, q⟩
    exact ⟨v, r, rfl, h1.mono _ _ _ _ _ (fun σ' H' z => h2.mono _ _ _ _ _ k z) q⟩
  · rintro us σ H Q ⟨v, r, rfl, q⟩
    refine ⟨v, r, rfl, h1.mono _ _ _ _ _ ?_ (h1.wip _ _ _ _ q)⟩
    rintro σ' H' ⟨e, z⟩
    exact h2.mono _ _ _ _ _ (fun σ2 H2 z2 => ⟨z2.1.trans e, z2.2⟩) (h2.wip _ _ _ _ z)
theorem gin_tup {K : PySem.W.Frag} {n : Nat} {gs : TGs} {vs : List Nat} (h : GIns gs vs) : GIn (gTup K n gs) vs := by
  constructor
  · rintro v σ H Q Q' k ⟨a, xs, ez1, ez2, e3, q⟩
    exact ⟨a, xs, ez1, ez2, e3, h.mono _ _ _ _ _ k q⟩
  · rintro v σ H Q ⟨a, xs, ez1, ez2, e3, q⟩
    exact ⟨a, xs, ez1, ez2, e3, h.wip _ _ _ _ q⟩
/-! the environment within: lists are read alone, the names of the comprehension are not there yet -/
def wipeE (env : En) : List Nat → En
  | [] => env
  | v :: vs => (wipeE env vs).set v .un
def demE : E → E
  | .own xs => .v (.l xs)
  | e => e
def inE (vs : List Nat) (env : En) : En := (wipeE env vs).map demE
def yesW : Wt := fun _ Q => Q true
theorem snd_yes : SndT K b tYes yesW := fun _ _ _ _ H _ r _ h _ k => k true H (Frm.refl _ _) r.bag h
def lcW (mg : Wg) (mt : Wt) (me : Wm) (ez1 : En) : List WI → List PD → (List PD → Prop) → Prop
  | [], acc, Q => Q acc
  | d :: ds, acc, Q => mg d ez1 fun env1 => mt env1 fun c => if c = true then me env1 fun w => ∃ x, w = .d x ∧ acc.length < sizeLine ∧ lcW mg mt me ez1 ds (acc ++ [x]) Q else lcW mg mt me ez1 ds acc Q
def lcompW (vs : List Nat) (mi : Wi) (mg : Wg) (mt : Wt) (me : Wm) : Wf := fun env Q => mi env fun ds => lcW mg mt me (inE vs env) ds [] Q
theorem wipeE_len (env : En) : ∀ vs, (wipeE env vs).length = env.length
  | [] => rfl
  | v :: vs => by
    unfold wipeE
    rw [List.length_set, wipeE_len env vs]
/-- within: nothing is one's own, the list that is made at D may change -/
theorem ER.within {M0 O : Addr → Prop} {H0 H : Hp} {σ : LSt} {env : En} (r : ER K M0 b H0 O σ H env) (vs : List Nat) {D : Addr} {H1 : Hp} (f : Frm b H H1) (g : Bag b H1) (nD : H D = none) (hD : H1 D ≠ none) :
    ER K (fun a => MO M0 O a ∨ a = D) b H1 (fun _ => False) (wipe σ vs) H1 (inE vs env) := by
  have r1 := r.after f g
  have fzs : ∀ (M2 : Addr → Prop), (∀ a, M2 a ↔ MO M0 O a ∨ a = D) → Same (Fz (MO M0 O) H) (Fz M2 H1) := fun M2 hM => fz_same fun a o n e => by
    refine ⟨fun z => ((hM a).mp z).elim n fun z => ?_, f a o ⟨fun z => n (.inl (z ▸ r.mb.1)), fun z => n (.inl (z ▸ r.mb.2))⟩ e⟩
    rw [z, nD] at e
    cases e
  refine ⟨⟨.inl (.inl r.mb.1), .inl (.inl r.mb.2)⟩, .inl (.inl r.mc), ?_, Frm.refl _ _, g, by unfold inE; rw [wipe_length, List.length_map, wipeE_len, r.len], fun _ z => z.elim, ?_, ?_⟩
  · rintro a (m | rfl)
    · exact r1.domO a m
    · exact hD
  · intro i s e h1 h2
    unfold inE at h2
    rw [List.getElem?_map] at h2
    have key : ∀ (us : List Nat) (s : Option V) (e : E), (wipe σ us)[i]? = some s → (wipeE env us)[i]? = some e → SlotOk K (fun a => MO M0 O a ∨ a = D) (fun _ => False) b H1 s (demE e) := by
      intro us
      induction us with
      | nil =>
        intro s e h1 h2
        have so := r.slot i s e h1 h2
        have sm := fzs (MO (fun a => MO M0 O a ∨ a = D) fun _ => False) fun a => ⟨fun z => z.elim id False.elim, .inl⟩
        cases e with
        | un => trivial
        | v w =>
          obtain ⟨v, e, rp, nl⟩ := so
          refine ⟨v, e, ?_, fun _ _ z => z.elim⟩
          cases w with
          | d x => exact dp_mono sm _ _ rp
          | l xs =>
            obtain ⟨a, us, ez1, ez2, e3, e4⟩ := rp
            exact ⟨a, us, ez1, ez2, f a _ ez2 e3, dpAll_mono sm _ _ e4⟩
          | bag => exact rp
        | own xs =>
          obtain ⟨p, us, ez1, op, hpz, dp⟩ := so
          exact ⟨.ref p, ez1, ⟨p, us, rfl, r.nb p op, f p _ (r.nb p op) hpz, dpAll_mono sm _ _ dp⟩, fun _ _ z => z.elim⟩
      | cons u us ih =>
        intro s e h1 h2
        unfold wipe at h1
        unfold wipeE at h2
        by_cases un : u = i
        · subst un
          have hlz0 : u < (wipeE env us).length := by
            have := (List.getElem?_eq_some_iff.mp h2).1
            rwa [List.length_set] at this
          rw [List.getElem?_set_self hlz0] at h2
          obtain rfl := Option.some.inj h2
          trivial
        · rw [List.getElem?_set_ne un] at h1 h2
          exact ih s e h1 h2
    cases ez2 : (wipeE env vs)[i]? with
    | none =>
      rw [ez2] at h2
      cases h2
    | some x =>
      rw [ez2] at h2
      obtain rfl := Option.some.inj h2
      exact key vs s x h1 ez2
  · intro i j p xs ys h1 h2 h3 h4
    unfold inE at h3
    rw [List.getElem?_map] at h3
    cases e : (wipeE env vs)[i]? with
    | none =>
      rw [e] at h3
      cases h3
    | some x =>
      rw [e] at h3
      have h3 := Option.some.inj h3
      cases x <;> cases h3
theorem snd_lc {wi : TI} {g : TG} {mi : Wi} {mg : Wg} {vs : List Nat} (hi : SndI K b wi mi) (hgz : SndG K b g mg) (hv : GIn g vs) (ht : SndT K b tt mt) (hez : Snd K b te me) : SndF K b (tLc wi g tt te vs) (lcompW vs mi mg mt me) := by
  intro M0 H0 O σ H env r Qa hmz Q k
  refine hi M0 H0 O σ H env r _ hmz _ ?_
  rintro J ds H1 f g' ⟨G, Y, wk, hw⟩ q D hD
  have r1 := r.after f g'
  have nM : ¬ MO M0 O D := fun z => r1.domO D z hD
  have Db : Off b D := g'.off hD
  have Dc : D ≠ b.2 := fun z => g'.there2 (z ▸ hD)
  let M2 : Addr → Prop := fun a => MO M0 O a ∨ a = D
  let Pv : Nat → Hp → Prop := fun i H' => Frm b H1 H' ∧ Bag b H' ∧ ∃ acc us, H' D = some (.lst us) ∧ DqAll K (Fz M2 H') us acc ∧ lcW mg mt me (inE vs env) (ds.drop i) acc Qa
  have sameOf : ∀ {H' : Hp}, Frm b H1 H' → Same (Fz (MO M0 O) H1) (Fz M2 H') := fun {H'} ff => fz_same fun a o n e => by
    refine ⟨fun z => z.elim n fun z => ?_, ff a o ⟨fun z => n (.inl (z ▸ r.mb.1)), fun z => n (.inl (z ▸ r.mb.2))⟩ e⟩
    rw [z, hD] at e
    cases e
  have domOf : ∀ {H' : Hp} {us : List V}, Frm b H1 H' → Bag b H' → H' D = some (.lst us) → ∀ a, M2 a → H' a ≠ none := by
    rintro H' us ff gg hdz a (m | rfl)
    · exact (r1.after ff gg).domO a m
    · rw [hdz]
      exact fun z => nomatch z
  refine lc_it wk Pv ?_ ?_ ?_ ?_
  · refine ⟨Frm.new hD, g'.new hD, [], [], upd_same, .nil, q⟩
  · rintro i H' _ ⟨ff, gg, acc, us, hdz, _, _⟩
    exact (hw M2 H' (sameOf ff) (domOf ff gg hdz)).1
  · rintro i x H' Hx hlt ⟨ff, gg, acc, us, hdz, dp, h⟩ hy
    obtain ⟨d, hdd, sx, dx, kx⟩ := (hw M2 H' (sameOf ff) (domOf ff gg hdz)).2 i x Hx hlt hy
    have e : ds.drop i = d :: ds.drop (i + 1) := by
      obtain ⟨hlz0, hd'⟩ := List.getElem?_eq_some_iff.mp hdd
      rw [List.drop_eq_getElem_cons hlz0, hd']
    rw [e] at h
    have fx : Frm b H1 Hx := ff.trans (frm_of sx)
    have gx := gg.ext sx kx
    have hdx : Hx D = some (.lst us) := sx _ _ hdz
    have rin := r1.within vs (D := D) fx gx hD (by rw [hdx]; exact fun z => nomatch z)
    have fze : ∀ (HH : Hp), Fz (MO M2 fun _ => False) HH = Fz M2 HH := fun HH => fz_congr (fun a => ⟨fun z => z.elim id False.elim, .inl⟩) HH
    have riz : ∀ (HH : Hp) (x : V) (d : WI), RepI K M2 HH x d → RepI K (MO M2 fun _ => False) HH x d := fun HH x d z => by
      cases d with
      | d y =>
        have z : Dq K (Fz M2 HH) x y := z
        show Dq K (Fz (MO M2 fun _ => False) HH) x y
        rw [fze HH]
        exact z
      | p y1 y2 =>
        obtain ⟨T, vx, vy, ez1, ez2, e3, e4⟩ := z
        exact ⟨T, vx, vy, ez1, ez2, by rw [fze HH]; exact e3, by rw [fze HH]; exact e4⟩
    have inner : ∀ (σ2 : LSt) (env2 : En), ER K M2 b Hx (fun _ => False) σ2 Hx env2 →
        mt env2 (fun c => if c = true then me env2 fun w => ∃ x, w = .d x ∧ acc.length < sizeLine ∧ lcW mg mt me (inE vs env) (ds.drop (i + 1)) (acc ++ [x]) Qa else lcW mg mt me (inE vs env) (ds.drop (i + 1)) acc Qa) →
        tt σ2 Hx fun c H3 => if c = true then te σ2 H3 fun y H4 => ∃ acc, H4 D = some (.lst acc) ∧ acc.length < sizeLine ∧ Pv (i + 1) (upd H4 D (.lst (acc ++ [y]))) else Pv (i + 1) H3 := by
      intro σ2 env2 r2 h2
      refine ht _ _ _ σ2 Hx env2 r2 _ h2 _ ?_
      intro c H3 f3 g3 h3
      have f13 := fx.trans f3
      have d3 : H3 D = some (.lst us) := f3 D _ Db hdx
      have s3 : Same (Fz M2 H') (Fz M2 H3) := fz_same fun a o n e => ⟨n, f3 a o ⟨fun z => n (.inl (.inl (z ▸ r.mb.1))), fun z => n (.inl (.inl (z ▸ r.mb.2)))⟩ (sx a o e)⟩
      cases c with
      | true =>
        have h3 : me env2 fun w => ∃ x, w = .d x ∧ acc.length < sizeLine ∧ lcW mg mt me (inE vs env) (ds.drop (i + 1)) (acc ++ [x]) Qa := h3
        show te σ2 H3 _
        refine hez _ _ _ σ2 H3 env2 (r2.after f3 g3) _ h3 _ ?_
        rintro v w H4 f4 g4 rp ⟨x', rfl, hzz, h4⟩
        have rp : Dq K (Fz M2 H4) v x' := fze H4 ▸ rp
        have d4 : H4 D = some (.lst us) := f4 D _ Db d3
        have dp4 : DqAll K (Fz M2 H4) us acc := dpAll_mono (s3.trans (f4.fz ⟨.inl (.inl r.mb.1), .inl (.inl r.mb.2)⟩)) _ _ dp
        have sD : Same (Fz M2 H4) (Fz M2 (upd H4 D (.lst (us ++ [v])))) := fz_same fun a o n e => ⟨n, by rw [upd_ne fun z => n (.inr z)]; exact e⟩
        refine ⟨us, d4, by rw [dpAll_len dp]; exact hzz, ?_, g4.stay (upd_ne Db.1.symm) (upd_ne Dc.symm) (by rw [upd_ne Db.2.symm]; exact g4.there3) (tabs_lst d4) (nt_upd (by intro _ z; cases z)), acc ++ [x'], us ++ [v], upd_same, dpAll_mono sD _ _ (dpAll_app dp4 (.cons rp .nil)), h4⟩
        intro a o n e
        rw [upd_ne (ne_of_none e hD)]
        exact f4 a o n (f13 a o n e)
      | false =>
        exact ⟨f13, g3, acc, us, d3, dpAll_mono s3 _ _ dp, h3⟩
    have h' := hgz _ _ _ (wipe σ vs) Hx (inE vs env) x d rin (riz Hx x d dx) _ h (fun σ2 H2 => tt σ2 H2 fun c H3 => if c = true then te σ2 H3 fun y H4 => ∃ acc, H4 D = some (.lst acc) ∧ acc.length < sizeLine ∧ Pv (i + 1) (upd H4 D (.lst (acc ++ [y]))) else Pv (i + 1) H3) fun σ2 env2 r2 h2 => inner σ2 env2 r2 h2
    refine hv.mono _ _ _ _ _ ?_ (hv.wip _ _ _ _ h')
    rintro σ2 H2 ⟨ez1, ez2⟩
    exact ⟨ez1.trans (wipe_wipe fun _ z => z), ez2⟩
  · rintro H' ⟨ff, gg, acc, us, hdz, dp, h⟩
    rw [List.drop_length] at h
    exact k (.ref D) acc H' (f.trans ff) gg ⟨D, us, rfl, f.free hD Db, hdz, dp⟩ h
end
end DD

set_option maxHeartbeats 3999999
/-! operators, subscripts, slices, built-in calls -/
namespace DD
open PySem PySem.Spec PyProof.Rows L2 GG
section
variable {K : PySem.W.Frag} {b : BP} {t ta tbz te : TE} {tt uu : TT} {tas : TA} {m ma mb me : Wm} {ms : Wl} {mt mu : Wt} {mf mg : Wf} {M : Addr → Prop} {H H' : Hp} {v : V} {w : W}
/-- the items of a list -/
def W.lst : W → Option (List PD)
  | .l xs => some xs
  | .d (.list xs) => some xs
  | _ => none
def W.tup : W → Option (List PD)
  | .d (.tuple xs) => some xs
  | _ => none
theorem RepW.lst {xs : List PD} (r : RepW K M b H v w) (e : w.lst = some xs) : ∃ a vs, v = .ref a ∧ SqL K H a vs ∧ DqAll K (Fz M H) vs xs := by
  cases w with
  | l ys =>
    obtain rfl := Option.some.inj e
    obtain ⟨a, vs, ez1, _, h, d⟩ := r
    exact ⟨a, vs, ez1, SqL.of h, d⟩
  | d y =>
    have r : Dq K (Fz M H) v y := r
    cases y <;> try cases e
    cases r with
    | lst hsv0 d => exact ⟨_, _, rfl, sqL_sub hsv0, d⟩
  | bag => cases e
theorem RepW.tup {xs : List PD} (r : RepW K M b H v w) (e : w.tup = some xs) : ∃ a vs, v = .ref a ∧ SqT K H a vs ∧ DqAll K (Fz M H) vs xs ∧ TupD K H a vs := by
  cases w with
  | l ys => cases e
  | d y =>
    have r : Dq K (Fz M H) v y := r
    cases y <;> try cases e
    cases r with
    | tup hsv0 d => exact ⟨_, _, rfl, (hsv0.mono fz_sub).sq, d, hsv0.mono fz_sub⟩
  | bag => cases e
/-- a new list, to be read at once -/
def lW (mf : Wf) : Wm := fun env Q => mf env fun xs => Q (.l xs)
theorem snd_l (h : SndF K b t mf) : Snd K b t (lW mf) := by
  intro M0 H0 O σ H env r Qa hmz Q k
  refine h M0 H0 O σ H env r _ hmz _ ?_
  rintro v xs H' f g ⟨p, vs, rfl, n, hpz, dp⟩ q
  exact k _ (.l xs) H' f g ⟨p, vs, rfl, r.bag.off n, hpz, dpAll_mono (fz_same fun a o z e => ⟨fun y => z (.inl y), e⟩) _ _ dp⟩ q
/-! ### subscripts -/
theorem atI_rep {vs : List V} {xs : List PD} {i : Int} {d : PD} (dp : DqAll K H vs xs) (e : atI xs i = some d) : ∃ v, atI vs i = some v ∧ Dq K H v d := by
  unfold atI at e ⊢
  rw [dpAll_len dp]
  cases q : ixN xs.length i with
  | none =>
    rw [q] at e
    cases e
  | some j =>
    rw [q] at e
    exact dpAll_get' dp e
def ixD (x : W) (i : Int) : Option PD := match x with
  | .l xs => atI xs i
  | .d (.list xs) => atI xs i
  | .d (.tuple xs) => atI xs i
  | .d (.str z) => if z.length ≤ sizeLine then (atI z.cps.toList i).map fun c => .str ⟨#[c]⟩ else none
  | _ => none
def ixF (x y : W) (Q : W → Prop) : Prop := ∃ i d, y = .d (.int i) ∧ ixD x i = some d ∧ Q (.d d)
theorem rv_ix : RV2 K b (rIx K) ixF := by
  intro M H x y wx wy mb dom g rxz ryz Qa h Q k
  obtain ⟨i, d, rfl, e, q⟩ := h
  obtain rfl := repInt ryz
  have lst : ∀ xs, wx.lst = some xs → atI xs i = some d → rIx K x (.int i) H Q := by
    intro xs hxz hez
    obtain ⟨a, vs, rfl, hsv0, dp⟩ := rxz.lst hxz
    obtain ⟨v, hv, dv⟩ := atI_rep dp hez
    exact .inl ⟨a, vs, i, v, rfl, rfl, hsv0, hv, k v (.d d) H (Frm.refl _ _) g dv q⟩
  have tup : ∀ xs, wx.tup = some xs → atI xs i = some d → rIx K x (.int i) H Q := by
    intro xs hxz hez
    obtain ⟨a, vs, rfl, hsv0, dp, _⟩ := rxz.tup hxz
    obtain ⟨v, hv, dv⟩ := atI_rep dp hez
    exact .inr (.inl ⟨a, vs, i, v, rfl, rfl, hsv0, hv, k v (.d d) H (Frm.refl _ _) g dv q⟩)
  cases wx with
  | l xs => exact lst xs rfl e
  | bag => cases e
  | d z =>
    cases z with
    | list xs => exact lst xs rfl e
    | tuple xs => exact tup xs rfl e
    | str z =>
      have rxz : Dq K (Fz M H) x (.str z) := rxz
      cases rxz
      simp only [ixD] at e
      split at e
      · rename_i hzz
        cases q2 : atI z.cps.toList i with
        | none =>
          rw [q2] at e
          cases e
        | some c =>
          rw [q2] at e
          obtain rfl := Option.some.inj e
          exact .inr (.inr ⟨z, i, c, rfl, rfl, hzz, q2, k _ (.d (.str ⟨#[c]⟩)) H (Frm.refl _ _) g (Dq.str _) q⟩)
      · cases e
    | _ => cases e
/-! ### slices -/
abbrev Wo := En → (Option Int → Prop) → Prop
def SndO (K : PySem.W.Frag) (b : BP) (t : TO) (m : Wo) : Prop := ∀ (M0 : Addr → Prop) (H0 : Hp) (O : Addr → Prop) (σ : LSt) (H : Hp) (env : En), ER K M0 b H0 O σ H env → ∀ Qa : Option Int → Prop, m env Qa →
  ∀ Q : Option Int → Hp → Prop, (∀ o H', Frm b H H' → Bag b H' → Qa o → Q o H') → t σ H Q
def noW : Wo := fun _ Q => Q none
def partW (me : Wm) : Wo := fun env Q => me env fun w => ∃ i, w = .d (.int i) ∧ Q (some i)
theorem so_no : SndO K b tNoPart noW := fun _ _ _ _ H _ r _ h _ k => k none H (Frm.refl _ _) r.bag h
theorem so_part (h : Snd K b te me) : SndO K b (tPart te) (partW me) := by
  intro M0 H0 O σ H env r Qa hmz Q k
  refine h M0 H0 O σ H env r _ hmz _ ?_
  rintro v w H' f g rp ⟨i, rfl, q⟩
  exact ⟨i, repInt rp, k _ H' f g q⟩
def cutD (xs : List PD) (lo hi : Option Int) : List PD := (xs.drop (HT.sIx xs.length 0 lo)).take (HT.sIx xs.length xs.length hi - HT.sIx xs.length 0 lo)
theorem cut_rep {vs : List V} {xs : List PD} {lo hi : Option Int} (dp : DqAll K H vs xs) : DqAll K H (cutV vs lo hi) (cutD xs lo hi) := by
  unfold cutV cutD
  rw [dpAll_len dp]
  exact dpAll_take _ (dpAll_drop _ dp)
def slLF (me : Wm) (ml mh : Wo) : Wf := fun env Q => me env fun w => ml env fun lo => mh env fun hi => ∃ xs, w.lst = some xs ∧ Q (cutD xs lo hi)
theorem snd_slL {tl th : TO} {ml mh : Wo} (h : Snd K b te me) (hlz0 : SndO K b tl ml) (hh : SndO K b th mh) : SndF K b (tSl (rSlL K) te tl th) (slLF me ml mh) := by
  intro M0 H0 O σ H env r Qa hmz Q k
  refine h M0 H0 O σ H env r _ hmz _ ?_
  intro v w H1 f1 g1 rp hm1
  refine hlz0 M0 H0 O σ H1 env (r.after f1 g1) _ hm1 _ ?_
  intro lo H2 f2 g2 hm2
  refine hh M0 H0 O σ H2 env ((r.after f1 g1).after f2 g2) _ hm2 _ ?_
  rintro hi H3 f3 g3 ⟨xs, e, q⟩
  have r3 := ((r.after f1 g1).after f2 g2).after f3 g3
  obtain ⟨a, vs, rfl, hsv0, dp⟩ := (rp.frm (f2.trans f3) r.mbO).lst e
  refine ⟨a, vs, rfl, hsv0, fun p hpz => ?_⟩
  have ff := (f1.trans f2).trans f3
  have pb : Off b p := g3.off hpz
  refine k _ _ _ (ff.trans (Frm.new hpz)) (g3.new hpz) ⟨p, _, rfl, ff.free hpz pb, upd_same, dpAll_mono (fz_same fun a o z e => ?_) _ _ (cut_rep dp)⟩ q
  have nap := ne_of_none e hpz
  exact ⟨fun y => y.elim z nap, by rw [upd_ne nap]; exact e⟩
/-- a part of a tuple that is not the whole -/
def slTW (me : Wm) (ml mh : Wo) : Wm := fun env Q => me env fun w => ml env fun lo => mh env fun hi => ∃ xs, w.tup = some xs ∧ ¬ (HT.sIx xs.length 0 lo = 0 ∧ HT.sIx xs.length xs.length hi = xs.length) ∧ Q (.d (.tuple (cutD xs lo hi)))
theorem snd_slT {tl th : TO} {ml mh : Wo} (h : Snd K b te me) (hlz0 : SndO K b tl ml) (hh : SndO K b th mh) : Snd K b (tSl (rSlZ K) te tl th) (slTW me ml mh) := by
  intro M0 H0 O σ H env r Qa hmz Q k
  refine h M0 H0 O σ H env r _ hmz _ ?_
  intro v w H1 f1 g1 rp hm1
  refine hlz0 M0 H0 O σ H1 env (r.after f1 g1) _ hm1 _ ?_
  intro lo H2 f2 g2 hm2
  refine hh M0 H0 O σ H2 env ((r.after f1 g1).after f2 g2) _ hm2 _ ?_
  rintro hi H3 f3 g3 ⟨xs, e, nw, q⟩
  have r3 := ((r.after f1 g1).after f2 g2).after f3 g3
  obtain ⟨a, vs, rfl, hsv0, dp, _⟩ := (rp.frm (f2.trans f3) r.mbO).tup e
  refine ⟨a, vs, rfl, hsv0, by rw [dpAll_len dp]; exact nw, fun p o hpz od oc => ?_⟩
  have ff := (f1.trans f2).trans f3
  have np : ¬ MO M0 O p := fun z => r3.domO p z hpz
  refine k _ (.d (.tuple _)) _ (ff.trans (Frm.new hpz)) (g3.new hpz) (Dq.tup (TupD.of np od oc) (dpAll_mono (fz_new hpz) _ _ (cut_rep dp))) q
/-! ### + of lists, of tuples, of texts -/
def RV2F (K : PySem.W.Frag) (b : BP) (r : R2) (f : W → W → (List PD → Prop) → Prop) : Prop := ∀ (M : Addr → Prop) (H : Hp) (x y : V) (wx wy : W), MB b M → (∀ a, M a → H a ≠ none) → Bag b H → RepW K M b H x wx → RepW K M b H y wy → ∀ Qa, f wx wy Qa →
  ∀ Q : VK, (∀ v xs H', Frm b H H' → Bag b H' → RepF K M H H' v xs → Qa xs → Q v H') → r x y H Q
def opF (f : W → W → (List PD → Prop) → Prop) (ma mb : Wm) : Wf := fun env Q => ma env fun x => mb env fun y => f x y Q
theorem snd_opF {r2 : R2} {f : W → W → (List PD → Prop) → Prop} (hr : RV2F K b r2 f) (haz : Snd K b ta ma) (hb : Snd K b tbz mb) : SndF K b (tOp r2 ta tbz) (opF f ma mb) := by
  intro M0 H0 O σ H env r Qa h Q k
  refine haz M0 H0 O σ H env r _ h _ ?_
  intro v w H1 f1 g1 r1 h1
  refine hb M0 H0 O σ H1 env (r.after f1 g1) _ h1 _ ?_
  intro u w' H2 f2 g2 r2 h2
  refine hr (MO M0 O) H2 v u w w' r.mbO ((r.after f1 g1).after f2 g2).domO g2 (r1.frm f2 r.mbO) r2 _ h2 _ ?_
  intro z xs H3 f3 g3 r3 q
  exact k z xs H3 ((f1.trans f2).trans f3) g3 (r3.pre (f1.trans f2) g2) q
def catF (x y : W) (Q : List PD → Prop) : Prop := ∃ xs ys, x = .l xs ∧ y = .l ys ∧ xs.length + ys.length ≤ sizeLine ∧ Q (xs ++ ys)
theorem rv_cat : RV2F K b rCat catF := by
  intro M H x y wx wy mb dom g rxz ryz Qa h Q k
  obtain ⟨xs, ys, rfl, rfl, hzz, q⟩ := h
  obtain ⟨a, vs, rfl, na, haz, da⟩ := rxz
  obtain ⟨c, us, rfl, nc, hc, dc⟩ := ryz
  refine ⟨a, c, vs, us, rfl, rfl, haz, hc, by rw [dpAll_len da, dpAll_len dc]; exact hzz, fun p hpz => ?_⟩
  refine k _ _ _ (Frm.new hpz) (g.new hpz) ⟨p, _, rfl, hpz, upd_same, dpAll_mono (fz_same fun a o z e => ?_) _ _ (dpAll_app da dc)⟩ q
  have nap := ne_of_none e hpz
  exact ⟨fun y => y.elim z nap, by rw [upd_ne nap]; exact e⟩
def catTF (x y : W) (Q : W → Prop) : Prop := ∃ xs ys, x.tup = some xs ∧ y.tup = some ys ∧ xs ≠ [] ∧ xs.length + ys.length ≤ sizeLine ∧ Q (.d (.tuple (xs ++ ys)))
theorem rv_catT : RV2 K b (rCatZ K) catTF := by
  intro M H x y wx wy mb dom g rxz ryz Qa h Q k
  obtain ⟨xs, ys, ez1, ez2, nx, hzz, q⟩ := h
  cases wx with
  | l _ => cases ez1
  | bag => cases ez1
  | d z =>
    have rx0 : Dq K (Fz M H) x z := rxz
    obtain ⟨a, vs, rfl, hsv0, dp, _⟩ := rxz.tup ez1
    obtain ⟨c, us, rfl, hs2, dp2, _⟩ := ryz.tup ez2
    refine ⟨a, c, vs, us, rfl, rfl, hsv0, hs2, ?_, by rw [dpAll_len dp, dpAll_len dp2]; exact hzz, ?_, ?_⟩
    · intro z
      subst z
      cases xs with
      | nil => exact nx rfl
      | cons _ _ => cases dp
    · intro z
      subst z
      cases ys with
      | nil =>
        rw [List.append_nil] at q
        cases z <;> try cases ez1
        exact k _ (.d (.tuple _)) H (Frm.refl _ _) g rx0 q
      | cons _ _ => cases dp2
    · intro _ p o hpz od oc
      have np : ¬ M p := fun z => dom p z hpz
      exact k _ (.d (.tuple _)) _ (Frm.new hpz) (g.new hpz) (Dq.tup (TupD.of np od oc) (dpAll_mono (fz_new hpz) _ _ (dpAll_app dp dp2))) q
/-! ### len, tuple, list -/
def lenF (ws : List W) (Q : W → Prop) : Prop := ∃ w n, ws = [w] ∧ (w.lst.map List.length = some n ∨ w.tup.map List.length = some n ∨ ∃ z, w = .d (.str z) ∧ z.length ≤ sizeLine ∧ n = z.length) ∧ Q (.d (.int (n : Nat)))
theorem rc_len : RC K b (fun xs H Q => ∃ x n, xs = [x] ∧ LenV K x H n ∧ Q (.int n) H) lenF := by
  intro M H vs ws mb dom g p Qa h Q k
  obtain ⟨w, n, rfl, h, q⟩ := h
  cases p with
  | cons rxz rest =>
    cases rest
    rename_i x
    have fin : Q (.int (n : Nat)) H := k _ (.d (.int (n : Nat))) H (Frm.refl _ _) g (Dq.int _) q
    rcases h with h | h | ⟨z, rfl, hzz, rfl⟩
    · cases e : w.lst with
      | none =>
        rw [e] at h
        cases h
      | some xs =>
        rw [e] at h
        obtain rfl := Option.some.inj h
        obtain ⟨a, us, rfl, hsv0, dp⟩ := rxz.lst e
        exact ⟨_, _, rfl, .inl ⟨us, hsv0, (dpAll_len dp).symm⟩, fin⟩
    · cases e : w.tup with
      | none =>
        rw [e] at h
        cases h
      | some xs =>
        rw [e] at h
        obtain rfl := Option.some.inj h
        obtain ⟨a, us, rfl, hsv0, dp, _⟩ := rxz.tup e
        exact ⟨_, _, rfl, .inr ⟨us, hsv0, (dpAll_len dp).symm⟩, fin⟩
    · have rxz : Dq K (Fz M H) x (.str z) := rxz
      cases rxz
      exact ⟨_, _, rfl, ⟨hzz, rfl⟩, fin⟩
def tupF (ws : List W) (Q : W → Prop) : Prop := ∃ w xs, ws = [w] ∧ (w.lst = some xs ∨ w.tup = some xs) ∧ Q (.d (.tuple xs))
theorem rc_tup : RC K b (rTupZ K) tupF := by
  intro M H vs ws mb dom g p Qa h Q k
  obtain ⟨w, xs, rfl, h, q⟩ := h
  cases p with
  | cons rxz rest =>
    cases rest
    rcases h with h | h
    · obtain ⟨a, us, rfl, hsv0, dp⟩ := rxz.lst h
      refine ⟨a, us, rfl, .inl ⟨hsv0, fun l o hlz0 od oc => ?_⟩⟩
      have nl : ¬ M l := fun z => dom l z hlz0
      exact k _ (.d (.tuple xs)) _ (Frm.new hlz0) (g.new hlz0) (Dq.tup (TupD.of nl od oc) (dpAll_mono (fz_new hlz0) _ _ dp)) q
    · obtain ⟨a, us, rfl, hsv0, dp, _⟩ := rxz.tup h
      refine ⟨a, us, rfl, .inr ⟨hsv0, k _ (.d (.tuple xs)) H (Frm.refl _ _) g ?_ q⟩⟩
      cases w with
      | l _ => cases h
      | bag => cases h
      | d z =>
        cases z <;> try cases h
        exact rxz
def listF (ws : List W) (Q : List PD → Prop) : Prop := ∃ w xs, ws = [w] ∧ (w.lst = some xs ∨ w.tup = some xs) ∧ Q xs
theorem rc_list : RCF K b (fun xs H Q => ∃ p ys, xs = [.ref p] ∧ (SqL K H p ys ∨ SqT K H p ys) ∧ ∀ l, H l = none → Q (.ref l) (upd H l (.lst ys))) listF := by
  intro M H vs ws mb dom g p Qa h Q k
  obtain ⟨w, xs, rfl, h, q⟩ := h
  cases p with
  | cons rxz rest =>
    cases rest
    have fin : ∀ (us : List V), DqAll K (Fz M H) us xs → ∀ l, H l = none → Q (.ref l) (upd H l (.lst us)) := by
      intro us dp l hlz0
      refine k _ _ _ (Frm.new hlz0) (g.new hlz0) ⟨l, us, rfl, hlz0, upd_same, dpAll_mono (fz_same fun a o z e => ?_) _ _ dp⟩ q
      have nap := ne_of_none e hlz0
      exact ⟨fun y => y.elim z nap, by rw [upd_ne nap]; exact e⟩
    rcases h with h | h
    · obtain ⟨a, us, rfl, hsv0, dp⟩ := rxz.lst h
      exact ⟨a, us, rfl, .inl hsv0, fin us dp⟩
    · obtain ⟨a, us, rfl, hsv0, dp, _⟩ := rxz.tup h
      exact ⟨a, us, rfl, .inr hsv0, fin us dp⟩
/-! ### repr -/
def reprF (ws : List W) (Q : W → Prop) : Prop := ∃ w d, ws = [w] ∧ w.py = some d ∧ d.showable = true ∧ d.hasDict = false ∧ d.depth ≤ 32 ∧ d.shown.length ≤ sizeLine ∧ Q (.d (.str d.shown))
theorem rc_repr : RC K b (rRepr K) reprF := by
  intro M H vs ws mb dom g p Qa h Q k
  obtain ⟨w, d, rfl, e, h1, h2, h3, h4, q⟩ := h
  cases p with
  | cons rxz rest =>
    cases rest
    exact ⟨_, d, rfl, rxz.py e h2, h1, h2, h3, h4, k _ (.d (.str d.shown)) H (Frm.refl _ _) g (Dq.str _) q⟩
/-! ### x in (a, b, ..) of flat things -/
def flatD : PD → Bool
  | .none => true
  | .bool _ => true
  | .int _ => true
  | .str _ => true
  | _ => false
theorem flat_rep {d : PD} (r : Dq K H v d) (h : flatD d = true) : flatV v = true := by
  cases r <;> first | rfl | cases h
theorem eqv_rep {u : V} {d e : PD} (r1 : Dq K H v d) (r2 : Dq K H' u e) (h1 : flatD d = true) (h2 : flatD e = true) : eqV v u = PyData.eqv d e := by
  cases r1 <;> cases h1 <;> cases r2 <;> cases h2 <;> first | rfl | simp [eqV, PyData.eqv]
theorem flats_rep : ∀ {vs : List V} {ds : List PD}, DqAll K H vs ds → ds.all flatD = true → vs.all flatV = true
  | _, _, .nil, _ => rfl
  | _, _, .cons r rs, h => by
    rw [List.all_cons, Bool.and_eq_true] at h
    rw [List.all_cons, flat_rep r h.1, flats_rep rs h.2]
    rfl
theorem inV_rep {x : PD} (rxz : Dq K H' v x) (fx : flatD x = true) : ∀ {vs : List V} {ds : List PD}, DqAll K H vs ds → ds.all flatD = true → inV v vs = ds.any fun y => PyData.eqv y x
  | _, _, .nil, _ => rfl
  | _, _, .cons r rs, h => by
    rw [List.all_cons, Bool.and_eq_true] at h
    have ih := inV_rep rxz fx rs h.2
    unfold inV at ih ⊢
    rw [List.any_cons, List.any_cons, ih, eqv_rep r rxz h.1 fx]
def inF (neg : Bool) (x y : W) (Q : W → Prop) : Prop := ∃ d ds, x = .d d ∧ (y.lst = some ds ∨ y.tup = some ds) ∧ flatD d = true ∧ ds.all flatD = true ∧ Q (.d (.bool (if neg then !(ds.any fun z => PyData.eqv z d) else ds.any fun z => PyData.eqv z d)))
theorem rv_in {neg : Bool} : RV2 K b (rIn K neg) (inF neg) := by
  intro M H x y wx wy mb dom g rxz ryz Qa h Q k
  obtain ⟨d, ds, rfl, hy, fd, fds, q⟩ := h
  have rxz : Dq K (Fz M H) x d := rxz
  have main : ∀ (a : Addr) (us : List V), y = .ref a → (SqL K H a us ∨ SqT K H a us) → DqAll K (Fz M H) us ds → rIn K neg x y H Q := by
    intro a us e hsv0 dp
    refine ⟨a, us, e, hsv0, flat_rep rxz fd, flats_rep dp fds, ?_⟩
    rw [inV_rep rxz fd dp fds]
    exact k _ (.d (.bool _)) H (Frm.refl _ _) g (Dq.bl _) q
  rcases hy with hy | hy
  · obtain ⟨a, us, e, hsv0, dp⟩ := ryz.lst hy
    exact main a us e (.inl hsv0) dp
  · obtain ⟨a, us, e, hsv0, dp, _⟩ := ryz.tup hy
    exact main a us e (.inr hsv0) dp
/-! ### t.index(x), of texts -/
def strsOf : List PD → Option (List Str)
  | [] => some []
  | .str z :: ds => (strsOf ds).map (z :: ·)
  | _ :: _ => none
theorem strs_rep : ∀ {vs : List V} {ds : List PD} {zs : List Str}, DqAll K H vs ds → strsOf ds = some zs → vs = zs.map V.str
  | _, _, _, .nil, e => by
    obtain rfl := Option.some.inj e
    rfl
  | _, d :: ds, zs, .cons r rs, e => by
    cases d <;> try cases e
    rename_i z
    cases r
    cases q : strsOf ds with
    | none =>
      simp only [strsOf, q] at e
      cases e
    | some ys =>
      simp only [strsOf, q] at e
      obtain rfl := Option.some.inj e
      rw [strs_rep rs q]
      rfl
end
end DD

set_option maxHeartbeats 3999999
/-! sorted, as data -/
namespace DD
open PySem PySem.Spec PyProof.Rows L2 GG
section
variable {K : PySem.W.Frag} {b : BP} {t ta tbz te : TE} {tt uu : TT} {tas : TA} {m ma mb me mo : Wm} {ms : Wl} {mt mu : Wt} {mf mg : Wf} {M : Addr → Prop} {H H' : Hp} {v : V} {w : W}
theorem zip_rep {H : Hp} : ∀ {us : List V} {ds : List PD}, DqAll K H us ds → ∀ p ∈ us.zip ds, Dq K H p.1 p.2
  | _, _, .nil => fun p h => by cases h
  | _, _, .cons r rs => fun p h => by
    rcases List.mem_cons.mp h with rfl | h
    · exact r
    · exact zip_rep rs p h
theorem rep_zip {H : Hp} : ∀ {zs : List (V × PD)}, (∀ p ∈ zs, Dq K H p.1 p.2) → DqAll K H (zs.map Prod.fst) (zs.map Prod.snd)
  | [], _ => .nil
  | z :: zs, h => .cons (h z List.mem_cons_self) (rep_zip fun p hpz => h p (List.mem_cons_of_mem _ hpz))
theorem zip_snd' {us : List V} {ds : List PD} (h : us.length = ds.length) : (us.zip ds).map Prod.snd = ds := List.map_snd_zip (by omega)
/-- a new list of what stood in an oldz one -/
theorem new_list {M : Addr → Prop} {H : Hp} {vs : List V} {xs : List PD} (g : Bag b H) (dp : DqAll K (Fz M H) vs xs) {p : Addr} (hpz : H p = none) : Frm b H (upd H p (.lst vs)) ∧ Bag b (upd H p (.lst vs)) ∧ RepF K M H (upd H p (.lst vs)) (.ref p) xs := by
  refine ⟨Frm.new hpz, g.new hpz, p, vs, rfl, hpz, upd_same, dpAll_mono (fz_same fun a o z e => ?_) _ _ dp⟩
  have nap := ne_of_none e hpz
  exact ⟨fun y => y.elim z nap, by rw [upd_ne nap]; exact e⟩
theorem sortZ_snd {us : List V} {ds : List PD} (h : us.length = ds.length) : (sortZ us ds).map Prod.snd = ds.mergeSort (PySem.W.dataLe false id) := by
  unfold sortZ
  exact (List.map_mergeSort (r := PySem.W.dataLe false Prod.snd) (s := PySem.W.dataLe false id) (f := Prod.snd) (fun _ _ _ _ => rfl)).trans (by rw [zip_snd' h])
theorem sortKZ_snd {us : List V} {ds : List PD} (h : us.length = ds.length) : (sortKZ us ds).map Prod.snd = ds.mergeSort (PySem.W.dataLe false firstD) := by
  unfold sortKZ
  exact (List.map_mergeSort (r := PySem.W.dataLe false fun p : V × PD => firstD p.2) (s := PySem.W.dataLe false firstD) (f := Prod.snd) (fun _ _ _ _ => rfl)).trans (by rw [zip_snd' h])
mutual
theorem noD_alike : ∀ d : PyData, PySem.W.alike d d = true → d.hasDict = false
  | .none, _ => rfl
  | .bool _, _ => rfl
  | .int _, _ => rfl
  | .str _, _ => rfl
  | .list ds, h => by
    simp only [PyData.hasDict]
    exact noDs_alike ds (by simpa only [PySem.W.alike] using h)
  | .tuple ds, h => by
    simp only [PyData.hasDict]
    exact noDs_alike ds (by simpa only [PySem.W.alike] using h)
  | .dict _, h => by simp [PySem.W.alike] at h
theorem noDs_alike : ∀ ds : List PyData, PySem.W.alikeAll ds ds = true → PyData.hasDictAll ds = false
  | [], _ => rfl
  | d :: ds, h => by
    simp only [PySem.W.alikeAll, Bool.and_eq_true] at h
    simp only [PyData.hasDictAll, noD_alike d h.1, noDs_alike ds h.2, Bool.or_self]
end
/-- what sorted gives: alike data; named pairs -/
def srt (xs : List PD) : List PD := xs.mergeSort (PySem.W.dataLe false id)
def srtK (xs : List PD) : List PD := xs.mergeSort (PySem.W.dataLe false firstD)
def srtF (ws : List W) (Q : List PD → Prop) : Prop := ∃ w xs, ws = [w] ∧ w.lst = some xs ∧ PySem.W.AllAlike xs ∧ PySem.W.Sortable xs ∧ (∀ d ∈ xs, d.depth ≤ 32) ∧ Q (srt xs)
theorem rc_sortA : RCF K b (rSortA K) srtF := by
  intro M H vs ws mb dom g p Qa h Q k
  obtain ⟨w, xs, rfl, e, al, so, dp, q⟩ := h
  cases p with
  | cons rxz rest =>
    cases rest
    obtain ⟨a, us, rfl, hsv0, dd⟩ := rxz.lst e
    refine ⟨a, us, xs, rfl, hsv0, dqAll_dp _ _ (dpAll_mono fz_sub _ _ dd) (noDs fun d hdz => noD_alike d (al d hdz d hdz)), al, so, dp, fun p hpz => ?_⟩
    have dz : DqAll K (Fz M H) ((sortZ us xs).map Prod.fst) (srt xs) := by
      unfold srt
      rw [← sortZ_snd (dpAll_len dd)]
      exact rep_zip fun z hzz => zip_rep dd z (List.mem_mergeSort.mp hzz)
    obtain ⟨f1, g1, r1⟩ := new_list g dz hpz
    exact k _ _ _ f1 g1 r1 q
/-- pairs of a text and of data -/
def pairD (p : Str × PD) : PD := .tuple [.str p.1, p.2]
theorem noD_pair {nd : List (Str × PD)} (sm : ∀ p ∈ nd, p.2.canLay0 = true ∧ p.2.depth ≤ 32 ∧ PyData.eqv p.2 p.2 = true) {d : PD} (h : d ∈ nd.map pairD) : d.hasDict = false := by
  obtain ⟨p, hpz, rfl⟩ := List.mem_map.mp h
  simp [pairD, PyData.hasDict, PyData.hasDictAll, noD_lay _ (sm p hpz).1]
theorem named_pair (p : Str × PD) : IsNamed (pairD p) := ⟨p.1, [p.2], rfl⟩
theorem strict_one {α : Type} (f : α → List Nat) : ∀ {xs ys : List α}, xs.Perm ys → xs.Pairwise (fun p q => f p < f q) → ys.Pairwise (fun p q => f p ≤ f q) → xs = ys
  | [], ys, p, _, _ => (List.Perm.nil_eq p)
  | x :: xs, [], p, _, _ => by
    have := p.length_eq
    simp at this
  | x :: xs, y :: ys, p, h1, h2 => by
    obtain ⟨a1, a2⟩ := List.pairwise_cons.mp h1
    obtain ⟨b1, b2⟩ := List.pairwise_cons.mp h2
    have e : x = y := by
      have hy : y ∈ x :: xs := p.mem_iff.mpr List.mem_cons_self
      have hxz : x ∈ y :: ys := p.mem_iff.mp List.mem_cons_self
      rcases List.mem_cons.mp hy with z | z
      · exact z.symm
      · rcases List.mem_cons.mp hxz with z' | z'
        · exact z'
        · exact absurd (a1 y z) (List.not_lt.mpr (b1 x z'))
    subst e
    rw [strict_one f (p.cons_inv) a2 b2]
theorem srtK_pairs {us : List V} {nd : List (Str × PD)} {out : List (V × (Str × PD))} (h : us.length = nd.length) (p : out.Perm (us.zip nd)) (s : out.Pairwise fun p q => p.2.1.cps.toList < q.2.1.cps.toList) : out.map (fun p => pairD p.2) = srtK (nd.map pairD) := by
  have ez1 : srtK (nd.map pairD) = (nd.mergeSort fun p q => decide (p.1.cps.toList ≤ q.1.cps.toList)).map pairD := by
    unfold srtK
    refine (List.map_mergeSort (r := fun p q : Str × PD => decide (p.1.cps.toList ≤ q.1.cps.toList)) (s := PySem.W.dataLe false firstD) (f := pairD) ?_).symm
    intro x _ y _
    have := congrFun (congrFun (PySem.W.dataLe_str (β := Str × PD) fun p => p.1) x) y
    rw [← this]
    rfl
  have ez2 : (out.map Prod.snd).Perm nd := by
    have := p.map Prod.snd
    rwa [List.map_snd_zip (by omega)] at this
  have e3 : out.map Prod.snd = nd.mergeSort fun p q => decide (p.1.cps.toList ≤ q.1.cps.toList) := by
    refine strict_one (fun p : Str × PD => p.1.cps.toList) (ez2.trans (List.mergeSort_perm _ _).symm) (List.pairwise_map.mpr s) ?_
    refine List.Pairwise.imp (fun {a b} h => of_decide_eq_true h) (List.pairwise_mergeSort ?_ ?_ nd)
    · intro a b c h1 h2
      exact decide_eq_true (List.le_trans (of_decide_eq_true h1) (of_decide_eq_true h2))
    · intro a b
      rw [Bool.or_eq_true]
      rcases List.le_total a.1.cps.toList b.1.cps.toList with z | z
      · exact .inl (decide_eq_true z)
      · exact .inr (decide_eq_true z)
  rw [ez1, ← e3, List.map_map]
  rfl
def srtNF (ws : List W) (Q : List PD → Prop) : Prop := ∃ (w : W) (nd : List (Str × PD)), ws = [w] ∧ w.lst = some (nd.map pairD) ∧ (nd.map Prod.fst).Nodup ∧ (∀ p ∈ nd, p.2.canLay0 = true ∧ p.2.depth ≤ 32 ∧ PyData.eqv p.2 p.2 = true) ∧ Q (srtK (nd.map pairD))
theorem rc_sortN : RCF K b (rSortN K) srtNF := by
  intro M H vs ws mb dom g p Qa h Q k
  obtain ⟨w, nd, rfl, e, no, sm, q⟩ := h
  cases p with
  | cons rxz rest =>
    cases rest
    obtain ⟨a, us, rfl, hsv0, dd⟩ := rxz.lst e
    refine ⟨a, us, nd, rfl, hsv0, dqAll_dp _ _ (dpAll_mono fz_sub _ _ dd) (noDs fun d hdz => noD_pair sm hdz), no, sm, fun out hpz hs' p hnz => ?_⟩
    have hlz0 : us.length = nd.length := by rw [dpAll_len dd, List.length_map]
    have dz : DqAll K (Fz M H) (out.map Prod.fst) (srtK (nd.map pairD)) := by
      rw [← srtK_pairs hlz0 hpz hs']
      have zz : (us.zip (nd.map pairD)) = (us.zip nd).map fun p => (p.1, pairD p.2) := by
        rw [List.zip_map_right]
        rfl
      have := rep_zip (K := K) (H := Fz M H) (zs := out.map fun p => (p.1, pairD p.2)) fun z hzz => by
        obtain ⟨p, hp', rfl⟩ := List.mem_map.mp hzz
        refine zip_rep dd _ ?_
        rw [zz]
        exact List.mem_map_of_mem (hpz.mem_iff.mp hp')
      rw [List.map_map, List.map_map] at this
      exact this
    obtain ⟨f1, g1, r1⟩ := new_list g dz hnz
    exact k _ _ _ f1 g1 r1 q
/-- by a key -/
def srtKW (me : Wm) : Wf := fun env Q => me env fun w => ∃ xs, w.lst = some xs ∧ (∀ d ∈ xs, IsNamed d ∧ d.hasDict = false) ∧ Q (srtK xs)
theorem made_frm {q : Str} {H H1 : Hp} (g : Bag b H) (m : Made b.z q H H1) (ts : LamX.TabS H1 b.z q) (hT : b.T = [(b.z, q)]) : Frm b H H1 ∧ Bag b H1 := by
  obtain ⟨z, st, n, cs, ez1, ez2, e3, e4, e5, e6, e7, e8, e9, e10, e11, e12⟩ := g
  have keep : ∀ a o, a ≠ b.z → H a = some o → H1 a = some o := fun a o ne e => m.same e fun ps z => ne (e12 a ps (z ▸ e))
  have fr : Frm b H H1 := fun a o n e => keep a o n.2 e
  refine ⟨fr, z, st, n, cs, m.same ez1 (by intro _ z; cases z), ez2, m.same e3 (by intro _ z; cases z), e4, e5, e6, e7, e8, e9, ?_, ?_, ?_⟩
  · obtain ⟨ps, h, _⟩ := ts
    rw [h]
    exact fun z => nomatch z
  · intro p hpz
    rw [hT] at hpz
    obtain rfl := List.mem_singleton.mp hpz
    exact ts
  · intro a ps e
    rcases m with rfl | ⟨ps', more, c, hP, nC, rfl⟩
    · exact e12 a ps e
    · by_cases ac : a = c
      · rw [ac, upd_same] at e
        exact (LamX.codeO_ne ps (Option.some.inj e)).elim
      · rw [upd_ne ac] at e
        by_cases az : a = b.z
        · exact az
        · rw [upd_ne az] at e
          exact e12 a ps e
theorem snd_sortK {q : Str} (hT : b.T = [(b.z, q)]) (h : Snd K b te me) : SndF K b (tSortK K b.z q te) (srtKW me) := by
  intro M0 H0 O σ H env r Qa hmz Q k
  refine h M0 H0 O σ H env r _ hmz _ ?_
  rintro v w H1 f g rp ⟨xs, e, nm, q1⟩
  obtain ⟨a, us, rfl, hsv0, dd⟩ := rp.lst e
  have tabs : LamX.TabS H1 b.z q := by
    obtain ⟨_, _, _, _, _, _, _, _, _, _, _, _, _, _, t, _⟩ := g
    exact t (b.z, q) (by rw [hT]; exact List.mem_singleton.mpr rfl)
  refine ⟨tabs, a, us, xs, rfl, hsv0, dqAll_dp _ _ (dpAll_mono fz_sub _ _ dd) (noDs fun d hdz => (nm d hdz).2), fun d hdz => (nm d hdz).1, fun H2 p md ts hpz => ?_⟩
  obtain ⟨f2, g2⟩ := made_frm g md ts hT
  have dz : DqAll K (Fz (MO M0 O) H1) ((sortKZ us xs).map Prod.fst) (srtK xs) := by
    unfold srtK
    rw [← sortKZ_snd (dpAll_len dd)]
    exact rep_zip fun z hzz => zip_rep dd z (List.mem_mergeSort.mp hzz)
  obtain ⟨f3, g3, r3⟩ := new_list g2 (dpAll_mono (f2.fz r.mbO) _ _ dz) hpz
  exact k _ _ _ ((f.trans f2).trans f3) g3 (r3.pre (f.trans f2) g2) q1
end
end DD

set_option maxHeartbeats 3999999
/-! two loops in one comprehension; x in t, t.index(x), dict(t)[k] -/
namespace DD
open PySem PySem.Spec PyProof.Rows L2 GG
/-! ### two loops -/
def NoOwn (env : En) : Prop := ∀ (i : Nat) (xs : List PD), env[i]? ≠ some (.own xs)
/-- a target that gives no name a list of one's own -/
def GNo (mg : Wg) : Prop := ∀ d e Q, NoOwn e → mg d e Q → mg d e fun e' => NoOwn e' ∧ Q e'
def GNos (mg : Wgs) : Prop := ∀ d e Q, NoOwn e → mg d e Q → mg d e fun e' => NoOwn e' ∧ Q e'
theorem NoOwn.set {e : En} {i : Nat} {w : W} (h : NoOwn e) : NoOwn (e.set i (.v w)) := by
  intro j xs z
  by_cases ij : i = j
  · subst ij
    by_cases hi : i < e.length
    · rw [List.getElem?_set_self hi] at z
      cases z
    · rw [List.getElem?_eq_none_iff.mpr (by rw [List.length_set]; omega)] at z
      cases z
  · rw [List.getElem?_set_ne ij] at z
    exact h j xs z
theorem gno_name {i : Nat} : GNo (gnW i) := by
  rintro d e Q h ⟨x, rfl, q⟩
  exact ⟨x, rfl, h.set, q⟩
theorem gno_nil : GNos gnilW := by
  rintro d e Q h ⟨rfl, q⟩
  exact ⟨rfl, h, q⟩
/-- the weakest condition grows with what follows -/
def GMo (mg : Wg) : Prop := ∀ d e Q Q', (∀ e', Q e' → Q' e') → mg d e Q → mg d e Q'
def GMos (mg : Wgs) : Prop := ∀ d e Q Q', (∀ e', Q e' → Q' e') → mg d e Q → mg d e Q'
theorem gmo_name {i : Nat} : GMo (gnW i) := by
  rintro d e Q Q' k ⟨x, rfl, q⟩
  exact ⟨x, rfl, k _ q⟩
theorem gmo_nil : GMos gnilW := by
  rintro d e Q Q' k ⟨rfl, q⟩
  exact ⟨rfl, k _ q⟩
theorem gmo_cons {mg : Wg} {mgs : Wgs} (h1 : GMo mg) (h2 : GMos mgs) : GMos (gconsW mg mgs) := by
  rintro d e Q Q' k ⟨x, r, rfl, q⟩
  exact ⟨x, r, rfl, h1 _ _ _ _ (fun e' => h2 _ _ _ _ k) q⟩
theorem gmo_tup {n : Nat} {mgs : Wgs} (h : GMos mgs) : GMo (gtupW n mgs) := by
  rintro d e Q Q' k ⟨ds, ez1, ez2, q⟩
  exact ⟨ds, ez1, ez2, h _ _ _ _ k q⟩
theorem gno_cons {mg : Wg} {mgs : Wgs} (m1 : GMo mg) (h1 : GNo mg) (h2 : GNos mgs) : GNos (gconsW mg mgs) := by
  rintro d e Q no ⟨x, r, rfl, q⟩
  exact ⟨x, r, rfl, m1 _ _ _ _ (fun e' z => h2 _ _ _ z.1 z.2) (h1 _ _ _ no q)⟩
theorem gno_tup {n : Nat} {mgs : Wgs} (h : GNos mgs) : GNo (gtupW n mgs) := by
  rintro d e Q no ⟨ds, ez1, ez2, q⟩
  exact ⟨ds, ez1, ez2, h _ _ _ no q⟩
section
variable {K : PySem.W.Frag} {b : BP} {M0 O : Addr → Prop} {H0 H H1 H' : Hp} {σ : LSt} {env : En}
theorem inE_no (vs : List Nat) (env : En) : NoOwn (inE vs env) := by
  intro i xs z
  unfold inE at z
  rw [List.getElem?_map] at z
  cases e : (wipeE env vs)[i]? with
  | none =>
    rw [e] at z
    cases z
  | some x =>
    rw [e] at z
    have z := Option.some.inj z
    cases x <;> cases z
/-- an own list that no name is told to be -/
theorem ER.changeD (r : ER K M0 b H0 O σ H env) (no : NoOwn env) {p : Addr} {us : List V} (op : O p) : ER K M0 b H0 O σ (upd H p (.lst us)) env ∧ Same (Fz (MO M0 O) H) (Fz (MO M0 O) (upd H p (.lst us))) := by
  have pb := r.nb p op
  obtain ⟨p0, ys, hpz⟩ := r.own p op
  have pc : p ≠ b.2 := fun z => r.dom b.2 r.mc (z ▸ p0)
  have fzs : Same (Fz (MO M0 O) H) (Fz (MO M0 O) (upd H p (.lst us))) := fz_same fun a o n e => by
    have nap : a ≠ p := fun z => n (.inr (z ▸ op))
    exact ⟨n, by rw [upd_ne nap]; exact e⟩
  refine ⟨⟨r.mb, r.mc, r.dom, ?_, r.bag.stay (upd_ne pb.1.symm) (upd_ne pc.symm) (by rw [upd_ne pb.2.symm]; exact r.bag.there3) (tabs_lst hpz) (nt_upd (by intro _ z; cases z)), r.len, ?_, ?_, r.uniq⟩, fzs⟩
  · intro a o n e
    rw [upd_ne (ne_of_none e p0)]
    exact r.frm a o n e
  · intro a o
    refine ⟨(r.own a o).1, ?_⟩
    by_cases ap : a = p
    · subst ap
      exact ⟨us, upd_same⟩
    · rw [upd_ne ap]
      exact (r.own a o).2
  · intro j s e h1 h2
    have so := r.slot j s e h1 h2
    cases e with
    | un => trivial
    | v w =>
      obtain ⟨v, e, rw', nl⟩ := so
      refine ⟨v, e, ?_, nl⟩
      cases w with
      | d y => exact dp_mono fzs _ _ rw'
      | l zs =>
        obtain ⟨a, vs', ez1, nb, haz, da⟩ := rw'
        have ap : a ≠ p := fun z => nl rfl p op (by rw [ez1, z])
        exact ⟨a, vs', ez1, nb, by rw [upd_ne ap]; exact haz, dpAll_mono fzs _ _ da⟩
      | bag => exact rw'
    | own zs => exact (no j zs h2).elim
theorem slot_wipe {P : Option V → E → Prop} (hun : ∀ s, P s .un) {i : Nat} (h : ∀ s e, σ[i]? = some s → env[i]? = some e → P s e) : ∀ (us : List Nat) (s : Option V) (e : E), (wipe σ us)[i]? = some s → (wipeE env us)[i]? = some e → P s e
  | [], s, e, h1, h2 => h s e h1 h2
  | u :: us, s, e, h1, h2 => by
    unfold wipe at h1
    unfold wipeE at h2
    by_cases un : u = i
    · subst un
      have hlz0 : u < (wipeE env us).length := by
        have := (List.getElem?_eq_some_iff.mp h2).1
        rwa [List.length_set] at this
      rw [List.getElem?_set_self hlz0] at h2
      obtain rfl := Option.some.inj h2
      exact hun s
    · rw [List.getElem?_set_ne un] at h1 h2
      exact slot_wipe hun h us s e h1 h2
theorem NoOwn.wipe (no : NoOwn env) : ∀ vs, NoOwn (wipeE env vs)
  | [] => no
  | u :: us => by
    intro j xs z
    unfold wipeE at z
    by_cases un : u = j
    · subst un
      have hlz0 : u < (wipeE env us).length := by
        have := (List.getElem?_eq_some_iff.mp z).1
        rwa [List.length_set] at this
      rw [List.getElem?_set_self hlz0] at z
      cases z
    · rw [List.getElem?_set_ne un] at z
      exact NoOwn.wipe no us j xs z
theorem ER.wiped (r : ER K M0 b H0 O σ H env) (no : NoOwn env) (vs : List Nat) : ER K M0 b H0 O (wipe σ vs) H (wipeE env vs) := by
  refine ⟨r.mb, r.mc, r.dom, r.frm, r.bag, by rw [wipe_length, wipeE_len, r.len], r.own, fun i s e h1 h2 => ?_, fun i j p xs ys _ _ h3 _ => ?_⟩
  · exact slot_wipe (P := SlotOk K M0 O b H) (fun _ => trivial) (fun s e => r.slot i s e) vs s e h1 h2
  · exact (no.wipe vs i xs h3).elim
/-- within: the new list at D is one's own -/
theorem ER.inD (r : ER K M0 b H0 O σ H env) (vs : List Nat) {D : Addr} (f : Frm b H H1) (g : Bag b H1) (nD : H1 D = none) : ER K (MO M0 O) b H1 (fun a => a = D) (wipe σ vs) (upd H1 D (.lst [])) (inE vs env) := by
  have r1 := r.after f g
  have sm : Same (Fz (MO M0 O) H1) (Fz (MO (MO M0 O) fun a => a = D) (upd H1 D (.lst []))) := fz_same fun a o n e => by
    have nap : a ≠ D := ne_of_none e nD
    exact ⟨fun z => z.elim n nap, by rw [upd_ne nap]; exact e⟩
  refine ⟨r.mbO, .inl r.mc, r1.domO, Frm.new nD, g.new nD, by unfold inE; rw [wipe_length, List.length_map, wipeE_len, r.len], ?_, ?_, fun i j p xs ys _ _ h3 _ => (inE_no vs env i xs h3).elim⟩
  · rintro a rfl
    exact ⟨nD, [], upd_same⟩
  · intro i s e h1 h2
    unfold inE at h2
    rw [List.getElem?_map] at h2
    cases ez2 : (wipeE env vs)[i]? with
    | none =>
      rw [ez2] at h2
      cases h2
    | some x =>
      rw [ez2] at h2
      obtain rfl := Option.some.inj h2
      refine slot_wipe (P := fun s e => SlotOk K (MO M0 O) (fun a => a = D) b (upd H1 D (.lst [])) s (demE e)) (fun _ => trivial) ?_ vs s x h1 ez2
      intro s e q1 q2
      have so := r1.slot i s e q1 q2
      cases e with
      | un => trivial
      | v w =>
        obtain ⟨v, e, rp, nl⟩ := so
        cases w with
        | d x => exact ⟨v, e, dp_mono sm _ _ rp, fun z => by cases z⟩
        | l xs =>
          obtain ⟨a, us, ez1, e3, e4, e5⟩ := rp
          have nap : a ≠ D := ne_of_none e4 nD
          refine ⟨v, e, ⟨a, us, ez1, e3, by rw [upd_ne nap]; exact e4, dpAll_mono sm _ _ e5⟩, ?_⟩
          rintro _ c rfl z
          rw [ez1] at z
          exact nap (V.ref.inj z)
        | bag => exact ⟨v, e, rp, fun z => by cases z⟩
      | own xs =>
        obtain ⟨p, us, ez1, op, hpz, dp⟩ := so
        have nap : p ≠ D := ne_of_none hpz nD
        refine ⟨.ref p, ez1, ⟨p, us, rfl, r.nb p op, by rw [upd_ne nap]; exact hpz, dpAll_mono sm _ _ dp⟩, ?_⟩
        rintro _ c rfl z
        exact nap (V.ref.inj z)
end
def lc2W (mg : Wg) (mt : Wt) (mi1 : Wi) (mg1 : Wg) (mt1 : Wt) (me : Wm) (vs1 : List Nat) (ez1 : En) : List WI → List PD → (List PD → Prop) → Prop
  | [], acc, Q => Q acc
  | d :: ds, acc, Q => mg d ez1 fun env1 => mt env1 fun c => if c = true then mi1 env1 fun ds1 => lcW mg1 mt1 me (wipeE env1 vs1) ds1 acc fun acc' => lc2W mg mt mi1 mg1 mt1 me vs1 ez1 ds acc' Q
      else lc2W mg mt mi1 mg1 mt1 me vs1 ez1 ds acc Q
def lcomp2W (vs vs1 : List Nat) (mi : Wi) (mg : Wg) (mt : Wt) (mi1 : Wi) (mg1 : Wg) (mt1 : Wt) (me : Wm) : Wf := fun env Q => mi env fun ds => lc2W mg mt mi1 mg1 mt1 me vs1 (inE vs env) ds [] Q
section
variable {K : PySem.W.Frag} {b : BP} {te : TE} {tt tt1 : TT} {me : Wm} {mt mt1 : Wt} {wi wi1 : TI} {g g1 : TG} {mi mi1 : Wi} {mg mg1 : Wg} {vs vs1 : List Nat}
theorem drop_cons {α : Type} {ds : List α} {i : Nat} {d : α} (h : ds[i]? = some d) : ds.drop i = d :: ds.drop (i + 1) := by
  obtain ⟨hlz0, hdz⟩ := List.getElem?_eq_some_iff.mp h
  rw [List.drop_eq_getElem_cons hlz0, hdz]
theorem snd_lc2 (hi : SndI K b wi mi) (hgz : SndG K b g mg) (hv : GIn g vs) (hnz : GNo mg) (ht : SndT K b tt mt) (hi1 : SndI K b wi1 mi1) (hg1 : SndG K b g1 mg1) (hv1 : GIn g1 vs1) (ht1 : SndT K b tt1 mt1) (hez : Snd K b te me) :
    SndF K b (tLc2 wi g tt wi1 g1 tt1 te vs vs1) (lcomp2W vs vs1 mi mg mt mi1 mg1 mt1 me) := by
  intro M0 H0 O σ H env r Qa hmz Q k
  refine hi M0 H0 O σ H env r _ hmz _ ?_
  rintro J ds H1 f g' ⟨G, Y, wk, hw⟩ q D hD
  let M : Addr → Prop := MO M0 O
  let OD : Addr → Prop := fun a => a = D
  let L : List WI → List PD → (List PD → Prop) → Prop := lc2W mg mt mi1 mg1 mt1 me vs1 (inE vs env)
  let Pv : Nat → Hp → Prop := fun i H' => ER K M b H1 OD (wipe σ vs) H' (inE vs env) ∧ ∃ acc us, H' D = some (.lst us) ∧ DqAll K (Fz (MO M OD) H') us acc ∧ L (ds.drop i) acc Qa
  have sm : ∀ {H' : Hp}, Frm b H1 H' → Same (Fz M H1) (Fz (MO M OD) H') := fun {H'} ff => fz_same fun a o n e =>
    ⟨fun z => z.elim n (ne_of_none e hD), ff a o ⟨fun z => n (z ▸ r.mbO.1), fun z => n (z ▸ r.mbO.2)⟩ e⟩
  refine ⟨fun i m H' => m = ds.length - i ∧ i ≤ ds.length ∧ Pv i H', ⟨ds.length, by simp, Nat.zero_le _, r.inD vs f g' hD, [], [], upd_same, .nil, q⟩, ?_⟩
  rintro i m H' ⟨rfl, hle, r2, acc, us, hdz, dp, h⟩
  have gg := (hw (MO M OD) H' (sm r2.frm) r2.domO).1
  by_cases hlt : i < ds.length
  · refine .inr ⟨wk.goes i H' hlt gg, Pv (i + 1), fun H2 p => ⟨ds.length - (i + 1), by omega, rfl, hlt, p⟩, ?_⟩
    intro x Hx hy
    obtain ⟨d, hdd, sx, dx, kx⟩ := (hw (MO M OD) H' (sm r2.frm) r2.domO).2 i x Hx hlt (wk.yields i H' x Hx hlt gg hy)
    rw [drop_cons hdd] at h
    have rxz := r2.after (frm_of sx) (r2.bag.ext sx kx)
    have hdx : Hx D = some (.lst us) := sx _ _ hdz
    have s2x : Same (Fz (MO M OD) H') (Fz (MO M OD) Hx) := fz_same fun a o n e => ⟨n, sx a o e⟩
    have dpx := dpAll_mono s2x _ _ dp
    let Body : En → Prop := fun env1 => mt env1 fun c => if c = true then mi1 env1 fun ds1 => lcW mg1 mt1 me (wipeE env1 vs1) ds1 acc fun acc' => L (ds.drop (i + 1)) acc' Qa else L (ds.drop (i + 1)) acc Qa
    have h' := hgz M H1 OD (wipe σ vs) Hx (inE vs env) x d rxz dx _ (hnz _ _ _ (inE_no vs env) h) (fun σ2 H2 => H2 = Hx ∧ ∃ env1, ER K M b H1 OD σ2 Hx env1 ∧ NoOwn env1 ∧ Body env1) fun σ2 env1 r3 q3 => ⟨rfl, env1, r3, q3.1, q3.2⟩
    refine hv.mono _ _ _ _ _ ?_ (hv.wip _ _ _ _ h')
    rintro σ2 H2 ⟨ez1, rfl, env1, r3, no1, q3⟩
    refine ⟨ez1.trans (wipe_wipe fun _ z => z), ?_⟩
    refine ht M H1 OD σ2 H2 env1 r3 _ q3 _ ?_
    intro c H3 f3 g3 q4
    have r4 := r3.after f3 g3
    have rO := rxz.after f3 g3
    have d3 : H3 D = some (.lst us) := f3 D _ (rxz.nb D rfl) hdx
    have dp3 := dpAll_mono (f3.fz (M := MO M OD) rxz.mbO) _ _ dpx
    cases c with
    | false => exact ⟨rO, acc, us, d3, dp3, q4⟩
    | true =>
      have q4 : mi1 env1 fun ds1 => lcW mg1 mt1 me (wipeE env1 vs1) ds1 acc fun acc' => L (ds.drop (i + 1)) acc' Qa := q4
      show wi1 σ2 H3 _
      refine hi1 M H1 OD σ2 H3 env1 r4 _ q4 _ ?_
      rintro J1 ds1 H4 f4 g4 ⟨G1, Y1, wk1, hw1⟩ q5
      let Pv1 : Nat → Hp → Prop := fun j H' => ER K M b H1 OD (wipe σ vs) H' (inE vs env) ∧ ER K M b H1 OD (wipe σ2 vs1) H' (wipeE env1 vs1) ∧ Same (Fz (MO M OD) H4) (Fz (MO M OD) H') ∧ ∃ acc us, H' D = some (.lst us) ∧ DqAll K (Fz (MO M OD) H') us acc ∧
        lcW mg1 mt1 me (wipeE env1 vs1) (ds1.drop j) acc fun acc' => L (ds.drop (i + 1)) acc' Qa
      have rO4 := rO.after f4 g4
      have rI4 := (r4.after f4 g4).wiped no1 vs1
      have s4 := f4.fz (M := MO M OD) rxz.mbO
      refine ⟨fun j k H' => k = ds1.length - j ∧ j ≤ ds1.length ∧ Pv1 j H', ⟨ds1.length, by simp, Nat.zero_le _, rO4, rI4, Same.refl _, acc, us, f4 D _ (rxz.nb D rfl) d3, dpAll_mono s4 _ _ dp3, q5⟩, ?_⟩
      rintro j k1 H5 ⟨rfl, hle1, rO5, rI5, s5, acc5, us5, d5, dp5, q6⟩
      have gg1 := (hw1 (MO M OD) H5 s5 rI5.domO).1
      by_cases hlt1 : j < ds1.length
      · refine .inr ⟨wk1.goes j H5 hlt1 gg1, Pv1 (j + 1), fun H2 p => ⟨ds1.length - (j + 1), by omega, rfl, hlt1, p⟩, ?_⟩
        intro y Hy hyy
        obtain ⟨d1, hd1, sy, dy, ky⟩ := (hw1 (MO M OD) H5 s5 rI5.domO).2 j y Hy hlt1 (wk1.yields j H5 y Hy hlt1 gg1 hyy)
        rw [drop_cons hd1] at q6
        have rIy := rI5.after (frm_of sy) (rI5.bag.ext sy ky)
        have rOy := rO5.after (frm_of sy) (rI5.bag.ext sy ky)
        have s5y : Same (Fz (MO M OD) H5) (Fz (MO M OD) Hy) := fz_same fun a o n e => ⟨n, sy a o e⟩
        have dy5 : Hy D = some (.lst us5) := sy _ _ d5
        have dpy := dpAll_mono s5y _ _ dp5
        let Body1 : En → Prop := fun env2 => mt1 env2 fun c => if c = true then me env2 fun w => ∃ x, w = .d x ∧ acc5.length < sizeLine ∧ lcW mg1 mt1 me (wipeE env1 vs1) (ds1.drop (j + 1)) (acc5 ++ [x]) fun acc' => L (ds.drop (i + 1)) acc' Qa
          else lcW mg1 mt1 me (wipeE env1 vs1) (ds1.drop (j + 1)) acc5 fun acc' => L (ds.drop (i + 1)) acc' Qa
        have h1' := hg1 M H1 OD (wipe σ2 vs1) Hy (wipeE env1 vs1) y d1 rIy dy _ q6 (fun σ3 H6 => H6 = Hy ∧ ∃ env2, ER K M b H1 OD σ3 Hy env2 ∧ Body1 env2) fun σ3 env2 r6 q7 => ⟨rfl, env2, r6, q7⟩
        refine hv1.mono _ _ _ _ _ ?_ (hv1.wip _ _ _ _ h1')
        rintro σ3 H6 ⟨e3, rfl, env2, r6, q7⟩
        refine ⟨e3.trans (wipe_wipe fun _ z => z), ?_⟩
        refine ht1 M H1 OD σ3 H6 env2 r6 _ q7 _ ?_
        intro c H7 f7 g7 q8
        have d7 : H7 D = some (.lst us5) := f7 D _ (rxz.nb D rfl) dy5
        have s7 := f7.fz (M := MO M OD) rxz.mbO
        have dp7 := dpAll_mono s7 _ _ dpy
        have rO7 := rOy.after f7 g7
        have rI7 := rIy.after f7 g7
        cases c with
        | false => exact ⟨rO7, rI7, (s5.trans s5y).trans s7, acc5, us5, d7, dp7, q8⟩
        | true =>
          have q8 : me env2 fun w => ∃ x, w = .d x ∧ acc5.length < sizeLine ∧ lcW mg1 mt1 me (wipeE env1 vs1) (ds1.drop (j + 1)) (acc5 ++ [x]) fun acc' => L (ds.drop (i + 1)) acc' Qa := q8
          show te σ3 H7 _
          refine hez M H1 OD σ3 H7 env2 (r6.after f7 g7) _ q8 _ ?_
          rintro v w H8 f8 g8 rp ⟨x', rfl, hzz, q9⟩
          have rp : Dq K (Fz (MO M OD) H8) v x' := rp
          have s8 := f8.fz (M := MO M OD) rxz.mbO
          have d8 : H8 D = some (.lst us5) := f8 D _ (rxz.nb D rfl) d7
          have dp8 := dpAll_mono s8 _ _ dp7
          obtain ⟨rO9, s9⟩ := (rO7.after f8 g8).changeD (p := D) (us := us5 ++ [v]) (inE_no vs env) rfl
          obtain ⟨rI9, _⟩ := (rI7.after f8 g8).changeD (p := D) (us := us5 ++ [v]) (no1.wipe vs1) rfl
          exact ⟨us5, d8, by rw [dpAll_len dp8]; exact hzz, rO9, rI9, (((s5.trans s5y).trans s7).trans s8).trans s9, acc5 ++ [x'], us5 ++ [v], upd_same, dpAll_mono s9 _ _ (dpAll_app dp8 (.cons rp .nil)), q9⟩
      · have e : j = ds1.length := by omega
        subst e
        rw [List.drop_length] at q6
        exact .inl ⟨wk1.stops H5 gg1, rO5, acc5, us5, d5, dp5, q6⟩
  · have e : i = ds.length := by omega
    subst e
    rw [List.drop_length] at h
    refine .inl ⟨wk.stops H' gg, ?_⟩
    exact k _ _ _ (f.trans r2.frm) r2.bag ⟨D, us, rfl, f.free hD (g'.off hD), hdz, dp⟩ h
end
end DD

set_option maxHeartbeats 3999999
namespace DD
open PySem PySem.Spec PyProof.Rows L2 GG
section
variable {K : PySem.W.Frag} {b : BP} {t ta tbz te to ty : TE} {tt uu : TT} {tas : TA} {m ma mb me mo my : Wm} {ms : Wl} {mt mu : Wt} {mf mg : Wf} {M : Addr → Prop} {H H' : Hp} {v : V} {w : W}
/-! ### x in t, of data -/
def inTF (x y : W) (Q : W → Prop) : Prop := ∃ d ds, x.py = some d ∧ y.tup = some ds ∧ SeqAt.shaped d = true ∧ SeqAt.shaped (.tuple ds) = true ∧ Q (.d (.bool (ds.any fun z => PyData.eqv z d)))
theorem tup_py {ds : List PD} (e : w.tup = some ds) : w.py = some (.tuple ds) := by
  cases w with
  | l _ => cases e
  | bag => cases e
  | d z =>
    cases z <;> try cases e
    rfl
theorem rv_inT : RV2 K b (rInT K) inTF := by
  intro M H x y wx wy mb dom g rxz ryz Qa h Q k
  obtain ⟨d, ds, ez1, ez2, s1, s2, q⟩ := h
  exact ⟨d, ds, rxz.py ez1 (noD_shaped s1), ryz.py (tup_py ez2) (noD_shaped s2), s1, s2, k _ (.d (.bool _)) H (Frm.refl _ _) g (Dq.bl _) q⟩
/-! ### t.index(x) -/
abbrev rIndex (K : PySem.W.Frag) : V → List V → Hp → VK → Prop := fun x xs H Q => ∃ p, ∃ ys : List Str, ∃ z j, x = .ref p ∧ xs = [.str z] ∧ SqT K H p (ys.map V.str) ∧ ys[j]? = some z ∧ (∀ m, m < j → ys[m]? ≠ some z) ∧ Q (.int (j : Nat)) H
def indexW (mo : Wm) (ms : Wl) : Wm := fun env Q => mo env fun w => ∃ xs zs, w.tup = some xs ∧ strsOf xs = some zs ∧ ms env fun ws => ∃ z j, ws = [.d (.str z)] ∧ zs[j]? = some z ∧ (∀ m, m < j → zs[m]? ≠ some z) ∧ Q (.d (.int (j : Nat)))
theorem repStr {z : Str} (r : RepW K M b H v (.d (.str z))) : v = .str z := by
  have r' : Dq K (Fz M H) v (.str z) := r
  cases r'
  rfl
theorem snd_index (hoz : Snd K b to mo) (hsv0 : SndA K b tas ms) : Snd K b (tBT K (rIndex K) to tas) (indexW mo ms) := by
  intro M0 H0 O σ H env r Qa hmz Q k
  refine hoz M0 H0 O σ H env r _ hmz _ ?_
  rintro v w H1 f1 g1 r1 ⟨xs, zs, ez1, ez2, hm1⟩
  obtain ⟨a, vs, rfl, hqz, dp, td⟩ := r1.tup ez1
  refine ⟨⟨a, vs, rfl, td⟩, ?_⟩
  refine hsv0 M0 H0 O σ H1 env (r.after f1 g1) _ hm1 _ ?_
  rintro us ws H2 f2 g2 r2 ⟨z, j, rfl, e3, e4, q⟩
  cases r2 with
  | cons ru rest =>
    cases rest
    obtain rfl := repStr ru
    have dp2 := dpAll_mono (f2.fz (M := MO M0 O) r.mbO) _ _ dp
    have e := strs_rep dp2 ez2
    subst e
    obtain ⟨a', vs', e5, hq', dp', td'⟩ := (r1.frm f2 r.mbO).tup ez1
    obtain rfl := V.ref.inj e5
    have e6 := strs_rep dp' ez2
    rw [e6] at hq'
    exact ⟨a, zs, z, j, rfl, rfl, hq', e3, e4, k _ (.d (.int (j : Nat))) H2 (f1.trans f2) g2 (Dq.int _) q⟩
/-! ### dict(t)[x] -/
def dgetW (me my : Wm) : Wm := fun env Q => me env fun w => ∃ kds : List (Str × PD), w.tup = some (kds.map pairD) ∧ (kds.map Prod.fst).Nodup ∧ my env fun k => ∃ z d, k = .d (.str z) ∧ (z, d) ∈ kds ∧ Q (.d d)
theorem valV_merge {k : Key} {v : V} : ∀ {kvs acc : List (Key × V)}, ((k, v) ∈ kvs ∧ (kvs.map Prod.fst).Nodup ∨ k ∉ kvs.map Prod.fst ∧ valV acc k = some v) → valV (mergeK acc kvs) k = some v
  | [], acc, h => by
    rcases h with ⟨h, _⟩ | ⟨_, h⟩
    · cases h
    · exact h
  | (k1, v1) :: kvs, acc, h => by
    show valV (mergeK (putK acc k1 v1) kvs) k = some v
    refine valV_merge ?_
    rcases h with ⟨h, nd⟩ | ⟨n, h⟩
    · rw [List.map_cons, List.nodup_cons] at nd
      rcases List.mem_cons.mp h with e | h
      · obtain ⟨rfl, rfl⟩ := Prod.mk.inj e
        exact .inr ⟨nd.1, by rw [valV_put, if_pos rfl]⟩
      · exact .inl ⟨h, nd.2⟩
    · rw [List.map_cons, List.mem_cons, not_or] at n
      exact .inr ⟨n.2, by rw [valV_put, if_neg n.1]; exact h⟩
/-- the pairs of a tuple, in the heap -/
theorem pairs_rep : ∀ {kds : List (Str × PD)} {vs : List V}, DqAll K H vs (kds.map pairD) → ∃ (ps : List Addr) (kvs : List (Key × V)), vs = ps.map V.ref ∧ Paired (fun p kv => SqT K H p [kV kv.1, kv.2]) ps kvs ∧ kvs.map Prod.fst = kds.map (fun p => Sum.inr p.1) ∧
    ∀ z d, (z, d) ∈ kds → ∃ v, (Sum.inr z, v) ∈ kvs ∧ Dq K H v d
  | [], vs, h => by
    cases h
    exact ⟨[], [], rfl, .nil, rfl, fun _ _ h => by cases h⟩
  | (n, d) :: kds, vs, h => by
    cases h with
    | cons h1 h2 =>
      obtain ⟨ps, kvs, ez1, ez2, e3, e4⟩ := pairs_rep h2
      have h1 : Dq K H _ (.tuple [.str n, d]) := h1
      cases h1 with
      | tup hsv0 haz =>
        rename_i a us
        cases haz with
        | cons r1 rest =>
          cases rest with
          | cons r2 rest =>
            cases rest
            rename_i v1 v2
            have e : v1 = .str n := by
              cases r1
              rfl
            subst e
            refine ⟨a :: ps, (.inr n, v2) :: kvs, by rw [ez1]; rfl, .cons hsv0.sq ez2, by rw [List.map_cons, List.map_cons, e3], ?_⟩
            intro z d' hmz
            rcases List.mem_cons.mp hmz with e | hmz
            · obtain ⟨rfl, rfl⟩ := Prod.mk.inj e
              exact ⟨v2, List.mem_cons_self, r2⟩
            · obtain ⟨v, m1, m2⟩ := e4 z d' hmz
              exact ⟨v, List.mem_cons_of_mem _ m1, m2⟩
theorem nodup_map_inj {α β : Type} {f : α → β} (hfz : ∀ x y, f x = f y → x = y) : ∀ {xs : List α}, xs.Nodup → (xs.map f).Nodup
  | [], _ => List.nodup_nil
  | x :: xs, h => by
    rw [List.nodup_cons] at h
    rw [List.map_cons, List.nodup_cons]
    refine ⟨fun z => ?_, nodup_map_inj hfz h.2⟩
    obtain ⟨y, hy, e⟩ := List.mem_map.mp z
    exact h.1 (hfz _ _ e ▸ hy)
theorem paired_up {M : Addr → Prop} {H : Hp} : ∀ {ps : List Addr} {kvs : List (Key × V)}, Paired (fun p kv => SqT K (Fz M H) p [kV kv.1, kv.2]) ps kvs → Paired (fun p kv => SqT K H p [kV kv.1, kv.2]) ps kvs
  | _, _, .nil => .nil
  | _, _, .cons h t => .cons (sqT_mono fz_sub h) (paired_up t)
theorem snd_dget (h : Snd K b te me) (hy : Snd K b ty my) : Snd K b (tDGet (tCB (rDictT K) (tCons te tNil)) ty) (dgetW me my) := by
  intro M0 H0 O σ H env r Qa hmz Q k
  refine h M0 H0 O σ H env r _ hmz _ ?_
  rintro v w H1 f1 g1 r1 ⟨kds, ez1, nd, hm1⟩
  obtain ⟨a, vs, rfl, hqz, dp, td⟩ := r1.tup ez1
  obtain ⟨ps, kvs, rfl, pp, ek, em⟩ := pairs_rep dp
  refine ⟨a, ps, kvs, rfl, td, paired_up pp, fun p hpz => ?_⟩
  have pb : Off b p := g1.off hpz
  have np : ¬ MO M0 O p := fun z => (r.after f1 g1).domO p z hpz
  have fn : Frm b H1 (upd H1 p (.dK (mergeK [] kvs))) := Frm.new hpz
  have gn : Bag b (upd H1 p (.dK (mergeK [] kvs))) := g1.new hpz
  refine hy M0 H0 O σ _ env ((r.after f1 g1).after fn gn) _ hm1 _ ?_
  rintro y wy H2 f2 g2 r2 ⟨z, d, rfl, mem, q⟩
  obtain rfl := repStr r2
  obtain ⟨v, m1, m2⟩ := em z d mem
  have hdz : H2 p = some (.dK (mergeK [] kvs)) := f2 p _ pb upd_same
  refine ⟨p, v, rfl, .inl ⟨_, .inr z, .inl hdz, rfl, ?_⟩, ?_⟩
  · refine (valV_merge (.inl ⟨m1, ?_⟩)).symm
    rw [ek]
    have := nodup_map_inj (f := fun z : Str => (Sum.inr z : Key)) (fun x y e => Sum.inr.inj e) nd
    rw [List.map_map] at this
    exact this
  · exact k v (.d d) H2 ((f1.trans fn).trans f2) g2 (dp_mono ((fn.fz r.mbO).trans (f2.fz r.mbO)) _ _ m2) q
/-! ### abs, int -/
def absF (ws : List W) (Q : W → Prop) : Prop := ∃ i, ws = [.d (.int i)] ∧ Q (.d (.int (if i < 0 then -i else i)))
theorem rc_abs : RC K b (fun xs H Q => ∃ i, xs = [.int i] ∧ Q (.int (if i < 0 then -i else i)) H) absF := by
  intro M H vs ws mb dom g p Qa h Q k
  obtain ⟨i, rfl, q⟩ := h
  cases p with
  | cons rxz rest =>
    cases rest
    obtain rfl := repInt rxz
    exact ⟨i, rfl, k _ (.d (.int _)) H (Frm.refl _ _) g (Dq.int _) q⟩
end
end DD

set_option maxHeartbeats 3999999
namespace DD
open PySem PySem.Spec PyProof.Rows L2 GG
section
variable {K : PySem.W.Frag} {b : BP} {t ta tbz te to ty : TE} {tt uu : TT} {tas : TA} {m ma mb me mo my : Wm} {ms : Wl} {mt mu : Wt} {mf mg : Wf} {M : Addr → Prop} {H H' : Hp} {v : V} {w : W}
/-! ### enumerate(t) -/
def itETW (me : Wm) : Wi := fun env Q => me env fun w => ∃ ds, w.tup = some ds ∧ Q (ds.mapIdx fun i d => .p (.int (i : Nat)) d)
theorem si_enumT (h : Snd K b te me) : SndI K b (iEnumT K (tCons te tNil)) (itETW me) := by
  intro M0 H0 O σ H env r Qa hmz R k
  refine h M0 H0 O σ H env r _ hmz _ ?_
  rintro v w H1 f g' rp ⟨ds, e, q⟩
  have rp' : Dq K (Fz (MO M0 O) H1) v (.tuple ds) := by
    cases w with
    | l _ => cases e
    | bag => cases e
    | d z =>
      cases z <;> try cases e
      exact rp
  cases rp' with
  | tup hsv0 dp =>
    rename_i a vs
    refine ⟨a, vs, rfl, (hsv0.mono fz_sub).sq, k _ _ H1 f g' ⟨_, _, by rw [List.length_mapIdx]; exact dpAll_len dp ▸ walk_enumT, ?_⟩ q⟩
    intro M' H' s dom
    refine ⟨((hsv0.mono s).mono fz_sub).sq, ?_⟩
    rintro i x Hx hi ⟨T, x1, x2, rfl, nT, rfl, ez1, ez2⟩
    obtain ⟨d, hdz, dx⟩ := dpAll_get dp ez2
    obtain rfl := Option.some.inj ez1
    refine ⟨.p (.int (i : Nat)) d, by rw [List.getElem?_mapIdx, hdz]; rfl, fun a o e => by rw [upd_ne (ne_of_none e nT)]; exact e, ?_, nt_upd (by intro _ z; cases z)⟩
    exact ⟨T, _, _, rfl, SqT.of upd_same, .int _, dp_mono (s.trans (fz_new nT)) _ _ dx⟩
/-! ### -e -/
def negW (me : Wm) : Wm := fun env Q => me env fun w => ∃ i, w = .d (.int i) ∧ Q (.d (.int (-i)))
theorem snd_neg (h : Snd K b te me) : Snd K b (tUn (rU fun i => .int (-i)) te) (negW me) := by
  intro M0 H0 O σ H env r Qa hmz Q k
  refine h M0 H0 O σ H env r _ hmz _ ?_
  rintro v w H' f g rp ⟨i, rfl, q⟩
  obtain rfl := repInt rp
  exact ⟨i, rfl, k _ (.d (.int (-i))) H' f g (Dq.int _) q⟩
/-! ### x, y = (e, f) -/
def parW (i j : Nat) (ms : Wl) : Ws := fun env Q => ms env fun ws => ∃ x y, ws = [.d x, .d y] ∧ Q (.nx ((env.set i (.v (.d x))).set j (.v (.d y))))
theorem snd_par {i j : Nat} (h : SndA K b tas ms) : SndS K b (tPar i j tas) (parW i j ms) := by
  intro M0 H0 O σ H env r Qa hmz D k1 k2 k3 k4 k5
  refine h M0 H0 O σ H env r _ hmz _ ?_
  rintro vs ws H' f g rp ⟨x, y, rfl, q⟩
  cases rp with
  | cons r1 rest =>
    cases rest with
    | cons r2 rest =>
      cases rest
      rename_i v1 v2
      exact ⟨v1, v2, rfl, k1 O _ H' _ (((r.after f g).put i (w := .d x) r1 rfl).put j (w := .d y) r2 rfl) (f.fz r.mbO) q⟩
/-! ### texts compared -/
def eqSF (x y : W) (Q : W → Prop) : Prop := ∃ i j : Str, x = .d (.str i) ∧ y = .d (.str j) ∧ Q (.d (.bool (decide (i = j))))
def neSF (x y : W) (Q : W → Prop) : Prop := ∃ i j : Str, x = .d (.str i) ∧ y = .d (.str j) ∧ Q (.d (.bool (!decide (i = j))))
theorem dec_str {i j : Str} : decide (V.str i = V.str j) = decide (i = j) := by
  by_cases e : i = j
  · rw [decide_eq_true e, decide_eq_true (congrArg V.str e)]
  · rw [decide_eq_false e, decide_eq_false fun z => e (V.str.inj z)]
theorem rv_eqS : RV2 K b rEq eqSF := by
  intro M H x y wx wy mb dom g rxz ryz Qa h Q k
  obtain ⟨i, j, rfl, rfl, q⟩ := h
  obtain rfl := repStr rxz
  obtain rfl := repStr ryz
  refine ⟨rfl, ?_⟩
  rw [dec_str]
  exact k _ (.d (.bool _)) H (Frm.refl _ _) g (Dq.bl _) q
theorem rv_neS : RV2 K b rNe neSF := by
  intro M H x y wx wy mb dom g rxz ryz Qa h Q k
  obtain ⟨i, j, rfl, rfl, q⟩ := h
  obtain rfl := repStr rxz
  obtain rfl := repStr ryz
  refine ⟨rfl, ?_⟩
  rw [dec_str]
  exact k _ (.d (.bool _)) H (Frm.refl _ _) g (Dq.bl _) q
end
end DD

set_option maxHeartbeats 3999999
/-! while; x is None; a < b < c -/
namespace DD
open PySem PySem.Spec PyProof.Rows L2 GG
section
variable {K : PySem.W.Frag} {b : BP} {t ta tbz te tc : TE} {tt : TT} {ts : TS} {m ma mb me mc : Wm} {mt : Wt} {ms : Ws}
/-! ### while -/
/-- one turn's ends, with a measure that falls -/
def spinW (I : Nat → En → Prop) (n : Nat) (Q : Out → Prop) : Out → Prop
  | .nx e => ∃ k, k < n ∧ I k e
  | .ct e => ∃ k, k < n ∧ I k e
  | .bk e => Q (.nx e)
  | o => Q o
def whileW (mt : Wt) (ms : Ws) : Ws := fun env Q => ∃ I : Nat → En → Prop, (∃ n, I n env) ∧ ∀ n env, I n env → mt env fun c => if c = true then ms env (spinW I n Q) else Q (.nx env)
theorem snd_while (ht : SndT K b tt mt) (hb : SndS K b ts ms) : SndS K b (tWhile tt ts) (whileW mt ms) := by
  intro M0 H0 O σ H env r Qa hmz D k1 k2 k3 k4 k5
  obtain ⟨I, ⟨n, i0⟩, st⟩ := hmz
  refine ⟨fun n σ' H' => ∃ O' env', ER K M0 b H0 O' σ' H' env' ∧ Same (Fz (MO M0 O) H) (Fz (MO M0 O') H') ∧ I n env', ⟨n, O, env, r, Same.refl _, i0⟩, ?_⟩
  rintro n σ' H' ⟨O', env', r', s, i⟩
  refine ht M0 H0 O' σ' H' env' r' _ (st n env' i) _ ?_
  intro c H1 f1 g1 q
  have r1 := r'.after f1 g1
  have s1 := s.trans (f1.fz (M := MO M0 O') r'.mbO)
  cases c with
  | false => exact k1 O' σ' H1 env' r1 s1 q
  | true =>
    refine ⟨fun σ2 H2 => ∃ k, k < n ∧ ∃ O2 env2, ER K M0 b H0 O2 σ2 H2 env2 ∧ Same (Fz (MO M0 O) H) (Fz (MO M0 O2) H2) ∧ I k env2, fun σ2 H2 h => h, ?_⟩
    have q : ms env' (spinW I n Qa) := q
    refine hb M0 H0 O' σ' H1 env' r1 _ q _ ?_ ?_ ?_ k4 k5
    · rintro O2 σ2 H2 env2 r2 s2 ⟨k, hk, ik⟩
      exact ⟨k, hk, O2, env2, r2, s1.trans s2, ik⟩
    · intro O2 σ2 H2 env2 r2 s2 q2
      exact k1 O2 σ2 H2 env2 r2 (s1.trans s2) q2
    · rintro O2 σ2 H2 env2 r2 s2 ⟨k, hk, ik⟩
      exact ⟨k, hk, O2, env2, r2, s1.trans s2, ik⟩
/-! ### x is None -/
def isN : W → Bool
  | .d .none => true
  | _ => false
theorem isN_rep {M : Addr → Prop} {H : Hp} {v : V} {w : W} (r : RepW K M b H v w) : decide (v = .non) = isN w := by
  cases w with
  | l xs =>
    obtain ⟨a, vs, rfl, _⟩ := r
    rfl
  | bag =>
    have r : v = .ref b.1 := r
    subst r
    rfl
  | d x =>
    have r : Dq K (Fz M H) v x := r
    cases r <;> rfl
def isNW (me : Wm) : Wm := fun env Q => me env fun w => Q (.d (.bool (isN w)))
def notNW (me : Wm) : Wm := fun env Q => me env fun w => Q (.d (.bool (!isN w)))
theorem snd_isN (h : Snd K b te me) : Snd K b (tIsN te) (isNW me) := by
  intro M0 H0 O σ H env r Qa hmz Q k
  refine h M0 H0 O σ H env r _ hmz _ ?_
  intro v w H' f g rp q
  show Q (.bl (decide (v = .non))) H'
  rw [isN_rep rp]
  exact k _ (.d (.bool _)) H' f g (Dq.bl _) q
theorem snd_notN (h : Snd K b te me) : Snd K b (tNotN te) (notNW me) := by
  intro M0 H0 O σ H env r Qa hmz Q k
  refine h M0 H0 O σ H env r _ hmz _ ?_
  intro v w H' f g rp q
  show Q (.bl (!decide (v = .non))) H'
  rw [isN_rep rp]
  exact k _ (.d (.bool _)) H' f g (Dq.bl _) q
/-! ### a < b < c -/
def chainW (f g : W → W → (W → Prop) → Prop) (ma mb mc : Wm) : Wm := fun env Q => ma env fun x => mb env fun y => f x y fun z => ∃ c, z = .d (.bool c) ∧ if c = true then mc env fun w => g y w Q else Q (.d (.bool false))
theorem snd_chain {r r' : R2} {f g : W → W → (W → Prop) → Prop} (hr : RV2 K b r f) (hr' : RV2 K b r' g) (haz : Snd K b ta ma) (hb : Snd K b tbz mb) (hc : Snd K b tc mc) : Snd K b (tChain r r' ta tbz tc) (chainW f g ma mb mc) := by
  intro M0 H0 O σ H env e Qa h Q k
  refine haz M0 H0 O σ H env e _ h _ ?_
  intro v w H1 f1 g1 r1 h1
  refine hb M0 H0 O σ H1 env (e.after f1 g1) _ h1 _ ?_
  intro u w' H2 f2 g2 r2 h2
  have ez2 := (e.after f1 g1).after f2 g2
  refine hr (MO M0 O) H2 v u w w' e.mbO ez2.domO g2 (r1.frm f2 e.mbO) r2 _ h2 _ ?_
  rintro z wz H3 f3 g3 r3 ⟨c, rfl, q⟩
  have e3 := ez2.after f3 g3
  have f03 := (f1.trans f2).trans f3
  refine ⟨c, repBool r3, ?_⟩
  cases c with
  | false => exact k _ (.d (.bool false)) H3 f03 g3 (Dq.bl _) q
  | true =>
    have q : mc env fun w => g w' w Qa := q
    refine hc M0 H0 O σ H3 env e3 _ q _ ?_
    intro v4 w4 H4 f4 g4 r4 q4
    refine hr' (MO M0 O) H4 u v4 w' w4 e.mbO (e3.after f4 g4).domO g4 (r2.frm (f3.trans f4) e.mbO) r4 _ q4 _ ?_
    intro v5 w5 H5 f5 g5 r5 q5
    exact k v5 w5 H5 ((f03.trans f4).trans f5) g5 r5 q5
end
end DD

set_option maxHeartbeats 3999999
/-! dicts that stand still, read -/
namespace DD
open PySem PySem.Spec PyProof.Rows L2 GG
def isKey : Key → PD → Bool
  | .inl i, .int j => decide (j = i)
  | .inr x, .str y => decide (y = x)
  | _, _ => false
def lookD (k : Key) : List (PD × PD) → Option PD
  | [] => none
  | (kd, d) :: r => if isKey k kd = true then some d else lookD k r
theorem isKey_key (k k' : Key) : isKey k (keyD k') = decide (k' = k) := by
  cases k <;> cases k' <;> simp [isKey, keyD]
theorem look_rep {K : PySem.W.Frag} {H : Hp} (k : Key) : ∀ {kvs : List (Key × V)} {kds : List (PD × PD)}, DqKv K H kvs kds → (∀ d, lookD k kds = some d → ∃ v, valV kvs k = some v ∧ Dq K H v d) ∧ (lookD k kds = none → valV kvs k = none)
  | _, _, .nil => ⟨(fun d h => by cases h), (fun _ => rfl)⟩
  | _, _, .cons (k := k1) (v := v1) h1 h2 => by
    obtain ⟨a, b⟩ := look_rep k h2
    unfold lookD
    rw [isKey_key]
    by_cases e : k1 = k
    · rw [if_pos (decide_eq_true e)]
      refine ⟨fun d h => ?_, fun h => by cases h⟩
      obtain rfl := Option.some.inj h
      exact ⟨v1, valV_pos e, h1⟩
    · rw [if_neg (by simpa using e)]
      rw [valV_neg e]
      exact ⟨a, b⟩
def keyOf : W → Option Key
  | .d (.int i) => some (.inl i)
  | .d (.str x) => some (.inr x)
  | _ => none
section
variable {K : PySem.W.Frag} {b : BP} {t ta tbz te ty tx : TE} {m ma me my mx : Wm} {M : Addr → Prop} {H : Hp} {v : V} {w : W}
theorem keyOf_rep {k : Key} (r : RepW K M b H v w) (e : keyOf w = some k) : v = kV k := by
  cases w with
  | l xs => cases e
  | bag => cases e
  | d x =>
    cases x <;> try cases e
    · obtain rfl := repInt r
      rfl
    · obtain rfl := repStr r
      rfl
theorem dict_rep {kds : List (PD × PD)} (ne : kds ≠ errP) (r : RepW K M b H v (.d (.dict kds))) : ∃ a kvs, v = .ref a ∧ Rd (Fz M H) a (.dK kvs) ∧ DqKv K (Fz M H) kvs kds := by
  have r : Dq K (Fz M H) v (.dict kds) := r
  cases r with
  | dict hr hk => exact ⟨_, _, rfl, hr, hk⟩
  | err _ _ e => exact (ne e).elim
theorem ne_look {kds : List (PD × PD)} {k : Key} {d : PD} (h : lookD k kds = some d) : kds ≠ errP := by
  rintro rfl
  cases k <;> simp [lookD, errP, isKey] at h
theorem rd_fz {a : Addr} {u : HO} (r : Rd (Fz M H) a u) : Rd H a u := rd_mono fz_sub r
/-- d[k] -/
def dixW (me my : Wm) : Wm := fun env Q => me env fun w => ∃ kds, w = .d (.dict kds) ∧ my env fun y => ∃ k d, keyOf y = some k ∧ lookD k kds = some d ∧ Q (.d d)
theorem snd_dix (h : Snd K b te me) (hy : Snd K b ty my) : Snd K b (tDGet te ty) (dixW me my) := by
  intro M0 H0 O σ H env r Qa hmz Q k
  refine h M0 H0 O σ H env r _ hmz _ ?_
  rintro v w H1 f1 g1 r1 ⟨kds, rfl, hm1⟩
  refine hy M0 H0 O σ H1 env (r.after f1 g1) _ hm1 _ ?_
  rintro y wy H2 f2 g2 r2 ⟨kk, d, ez1, ez2, q⟩
  obtain ⟨a, kvs, rfl, hr, hk⟩ := dict_rep (ne_look ez2) (r1.frm f2 r.mbO)
  obtain ⟨v, ev, dv⟩ := (look_rep kk hk).1 d ez2
  exact ⟨a, v, rfl, .inl ⟨kvs, kk, rd_fz hr, keyOf_rep r2 ez1, ev.symm⟩, k v (.d d) H2 (f1.trans f2) g2 dv q⟩
/-- d.get(k), d.get(k, x) -/
def getW1 (me my : Wm) : Wm := fun env Q => me env fun w => ∃ kds, w = .d (.dict kds) ∧ kds ≠ errP ∧ my env fun y => ∃ k, keyOf y = some k ∧ Q (.d ((lookD k kds).getD .none))
def getW2 (me my mx : Wm) : Wm := fun env Q => me env fun w => ∃ kds, w = .d (.dict kds) ∧ kds ≠ errP ∧ my env fun y => mx env fun z => ∃ k x, keyOf y = some k ∧ z = .d x ∧ Q (.d ((lookD k kds).getD x))
theorem isD_of {a : Addr} {kvs : List (Key × V)} (r : Rd H a (.dK kvs)) : IsD H a := .inl ⟨kvs, r⟩
theorem snd_get1 (h : Snd K b te me) (hy : Snd K b ty my) : Snd K b (tDGet1 te ty) (getW1 me my) := by
  intro M0 H0 O σ H env r Qa hmz Q k
  refine h M0 H0 O σ H env r _ hmz _ ?_
  rintro v w H1 f1 g1 r1 ⟨kds, rfl, ne, hm1⟩
  obtain ⟨a, kvs, rfl, hr, hk⟩ := dict_rep ne r1
  refine ⟨a, rfl, isD_of (rd_fz hr), ?_⟩
  refine hy M0 H0 O σ H1 env (r.after f1 g1) _ hm1 _ ?_
  rintro y wy H2 f2 g2 r2 ⟨kk, ez1, q⟩
  obtain ⟨a2, kvs2, ea, hr2, hk2⟩ := dict_rep ne (r1.frm f2 r.mbO)
  obtain rfl := V.ref.inj ea
  have f := f1.trans f2
  cases ez2 : lookD kk kds with
  | none =>
    rw [ez2] at q
    exact ⟨none, .inl ⟨kvs2, kk, rd_fz hr2, keyOf_rep r2 ez1, ((look_rep kk hk2).2 ez2).symm⟩, k .non (.d .none) H2 f g2 Dq.non q⟩
  | some d =>
    rw [ez2] at q
    obtain ⟨v, ev, dv⟩ := (look_rep kk hk2).1 d ez2
    exact ⟨some v, .inl ⟨kvs2, kk, rd_fz hr2, keyOf_rep r2 ez1, ev.symm⟩, k v (.d d) H2 f g2 dv q⟩
theorem snd_get2 (h : Snd K b te me) (hy : Snd K b ty my) (hxz : Snd K b tx mx) : Snd K b (tDGet2 te ty tx) (getW2 me my mx) := by
  intro M0 H0 O σ H env r Qa hmz Q k
  refine h M0 H0 O σ H env r _ hmz _ ?_
  rintro v w H1 f1 g1 r1 ⟨kds, rfl, ne, hm1⟩
  obtain ⟨a, kvs, rfl, hr, hk⟩ := dict_rep ne r1
  refine ⟨a, rfl, isD_of (rd_fz hr), ?_⟩
  refine hy M0 H0 O σ H1 env (r.after f1 g1) _ hm1 _ ?_
  intro y wy H2 f2 g2 r2 hm2
  have e2' := (r.after f1 g1).after f2 g2
  refine hxz M0 H0 O σ H2 env e2' _ hm2 _ ?_
  rintro z wz H3 f3 g3 r3 ⟨kk, x, ez1, rfl, q⟩
  obtain ⟨a2, kvs2, ea, hr2, hk2⟩ := dict_rep ne (r1.frm (f2.trans f3) r.mbO)
  obtain rfl := V.ref.inj ea
  have f := (f1.trans f2).trans f3
  have ek := keyOf_rep (r2.frm f3 r.mbO) ez1
  cases ez2 : lookD kk kds with
  | none =>
    rw [ez2] at q
    exact ⟨none, .inl ⟨kvs2, kk, rd_fz hr2, ek, ((look_rep kk hk2).2 ez2).symm⟩, k z (.d x) H3 f g3 r3 q⟩
  | some d =>
    rw [ez2] at q
    obtain ⟨v, ev, dv⟩ := (look_rep kk hk2).1 d ez2
    exact ⟨some v, .inl ⟨kvs2, kk, rd_fz hr2, ek, ev.symm⟩, k v (.d d) H3 f g3 dv q⟩
/-- k in d -/
def dinW (my me : Wm) : Wm := fun env Q => my env fun y => me env fun w => ∃ kds k, w = .d (.dict kds) ∧ kds ≠ errP ∧ keyOf y = some k ∧ Q (.d (.bool (lookD k kds).isSome))
theorem snd_din (hy : Snd K b ty my) (h : Snd K b te me) : Snd K b (tDIn ty te) (dinW my me) := by
  intro M0 H0 O σ H env r Qa hmz Q k
  refine hy M0 H0 O σ H env r _ hmz _ ?_
  intro y wy H1 f1 g1 r1 hm1
  refine h M0 H0 O σ H1 env (r.after f1 g1) _ hm1 _ ?_
  rintro v w H2 f2 g2 r2 ⟨kds, kk, rfl, ne, ez1, q⟩
  obtain ⟨a, kvs, rfl, hr, hk⟩ := dict_rep ne r2
  have ek := keyOf_rep (r1.frm f2 r.mbO) ez1
  cases ez2 : lookD kk kds with
  | none =>
    rw [ez2] at q
    exact ⟨a, none, rfl, .inl ⟨kvs, kk, rd_fz hr, ek, ((look_rep kk hk).2 ez2).symm⟩, k _ (.d (.bool false)) H2 (f1.trans f2) g2 (Dq.bl _) q⟩
  | some d =>
    rw [ez2] at q
    obtain ⟨v, ev, dv⟩ := (look_rep kk hk).1 d ez2
    exact ⟨a, some v, rfl, .inl ⟨kvs, kk, rd_fz hr, ek, ev.symm⟩, k _ (.d (.bool true)) H2 (f1.trans f2) g2 (Dq.bl _) q⟩
end
end DD

set_option maxHeartbeats 3999999
/-! isinstance of data, one built-in class -/
namespace DD
open PySem PySem.Spec PyProof.Rows L2 GG
/-- isinstance of data, by the six built-in classes -/
def kindD : PD → String
  | .none => "NoneType"
  | .bool _ => "bool"
  | .int _ => "int"
  | .str _ => "str"
  | .list _ => "list"
  | .tuple _ => "tuple"
  | .dict _ => "dict"
def isErr : PD → Bool
  | .dict [(.none, .none)] => true
  | _ => false
def isCls (T : String) : Bool := T == "int" || T == "bool" || T == "str" || T == "list" || T == "tuple" || T == "dict"
def isinD (T : String) (x : PD) : Option Bool := if isErr x = true then (if isCls T = true then some false else none) else kitB (kindD x) T
def isinF (T : String) : W → Option Bool
  | .d x => isinD T x
  | .l _ => kitB "list" T
  | .bag => none
def rIsiG (K : PySem.W.Frag) : List V → Hp → VK → Prop := fun xs H Q => rIsi K xs H Q ∨ ∃ (a C : Addr) (T : String), xs = [.ref a, .ty T] ∧ H a = some (exo a C none) ∧ ExcC K C ∧ PySem.W.kitOne K (.ref C) (.type T) = some false ∧ Q (.bl false) H
theorem call_isiG {X : Cx} : CallR X (.builtin "isinstance") (rIsiG X.K) := by
  intro pins s σ H xs us Q I r h
  rcases h with h | ⟨a, C, T, rfl, haz, hc, e, q⟩
  · exact call_isi pins s σ H xs us Q I r h
  · cases r with
    | cons rxz rr =>
      cases rr with
      | cons rt rr =>
        cases rr
        cases rxz
        cases rt
        obtain ⟨t1, hget⟩ := exo_at I.hok haz
        have J : PySem.W.InstAt s.heap a _ C none := ⟨hget, rfl, rfl, trivial⟩
        exact PySem.W.kia_one (PySem.W.handS_kitx_exc hc.hg hc.hk hc.hs hc.hd hc.ha hc.hn hc.ht hc.hm) I.kIn J e (fun z => nomatch z) fun tk => ⟨.bl false, H, I.tok _, rfl, q⟩
section
variable {K : PySem.W.Frag} {b : BP} {te : TE} {me : Wm} {M : Addr → Prop} {H : Hp} {v : V} {w : W}
theorem ty_list {a : Addr} {xs : List V} (h : SqL K H a xs) : TyX K H (.ref a) (.type "list") := by
  rcases h with (h | ⟨o, h⟩) | ⟨o, vs, n, h1, h2, _⟩
  · exact .base (.lst h)
  · exact .base (.frz h)
  · exact .kList h1 h2
theorem ty_tup {a : Addr} {xs : List V} (h : SqT K H a xs) : TyX K H (.ref a) (.type "tuple") := by
  rcases h with (h | ⟨o, h⟩) | ⟨o, vs, n, h1, h2, _⟩
  · exact .base (.tup h)
  · exact .fTuple h
  · exact .kTuple h1 h2
theorem ty_dict {a : Addr} {kvs : List (Key × V)} (h : Rd H a (.dK kvs)) : TyX K H (.ref a) (.type "dict") := by
  rcases h with h | ⟨o, h⟩
  · exact .base (.dK h)
  · exact .fDict h
theorem kv_err {H : Hp} {kvs : List (Key × V)} {ds : List (PD × PD)} (h : DqKv K H kvs ds) (e : ds = errP) : False := by
  cases h with
  | nil => cases e
  | @cons k _ _ _ _ _ _ =>
    unfold errP at e
    injection e with ez1 _
    injection ez1 with ez2 _
    cases k <;> cases ez2
/-- isinstance(e, T) -/
def isinW (T : String) (me : Wm) : Wm := fun env Q => me env fun w => ∃ c, isinF T w = some c ∧ Q (.d (.bool c))
theorem isin_rep {T : String} {c : Bool} {Q : VK} (r : RepW K M b H v w) (e : isinF T w = some c) (q : Q (.bl c) H) : rIsiG K [v, .ty T] H Q := by
  have fin : ∀ k, TyX K H v (.type k) → kitB k T = some c → rIsiG K [v, .ty T] H Q := fun k h1 h2 => .inl ⟨v, .ty T, _, _, c, rfl, .ty T, h1, kit_ty h2, q⟩
  cases w with
  | bag => cases e
  | l xs =>
    obtain ⟨a, vs, rfl, _, h, _⟩ := r
    exact fin "list" (ty_list (SqL.of h)) e
  | d x =>
    have r : Dq K (Fz M H) v x := r
    have e : isinD T x = some c := e
    unfold isinD at e
    cases r with
    | non => exact fin _ (.base .non) e
    | bl c => exact fin _ (.base (.bl c)) e
    | int i => exact fin _ (.base (.int i)) e
    | str z => exact fin _ (.base (.str z)) e
    | lst hsv0 _ => exact fin _ (ty_list (sqL_sub hsv0)) e
    | tup hsv0 _ => exact fin _ (ty_tup (hsv0.mono fz_sub).sq) e
    | dict hr hk =>
      split at e
      · rename_i h
        unfold isErr at h
        split at h
        · rename_i q
          exact (kv_err hk (PyData.dict.inj q)).elim
        · cases h
      · exact fin _ (ty_dict (rd_fz hr)) e
    | @err a C kvs h1 h2 h3 =>
      subst h3
      rw [if_pos (show isErr (.dict errP) = true from rfl)] at e
      split at e
      · rename_i hT
        obtain rfl := Option.some.inj e
        refine .inr ⟨a, C, T, rfl, fz_sub _ _ h1, h2.exc, ?_, q⟩
        simp only [isCls, Bool.or_eq_true, beq_iff_eq] at hT
        rcases hT with ((((rfl | rfl) | rfl) | rfl) | rfl) | rfl
        · exact h2.nint
        · exact h2.nbool
        · exact h2.nstr
        · exact h2.nlist
        · exact h2.ntuple
        · exact h2.ndict
      · cases e
theorem snd_isin {T : String} (h : Snd K b te me) : Snd K b (tCB (rIsiG K) (tCons te (tCons (tC (.ty T)) tNil))) (isinW T me) := by
  intro M0 H0 O σ H env r Qa hmz Q k
  refine h M0 H0 O σ H env r _ hmz _ ?_
  rintro v w H' f g rp ⟨c, e, q⟩
  exact isin_rep rp e (k _ (.d (.bool c)) H' f g (Dq.bl _) q)
end
theorem kit_int_int : kitB "int" "int" = some true := by decide +kernel
theorem kit_bool_int : kitB "bool" "int" = some true := by decide +kernel
theorem kit_str_int : kitB "str" "int" = some false := by decide +kernel
theorem kit_none_int : kitB "NoneType" "int" = some false := by decide +kernel
theorem kit_tuple_int : kitB "tuple" "int" = some false := by decide +kernel
theorem kit_list_int : kitB "list" "int" = some false := by decide +kernel
theorem kit_dict_int : kitB "dict" "int" = some false := by decide +kernel
theorem kit_bool_bool : kitB "bool" "bool" = some true := by decide +kernel
theorem kit_int_bool : kitB "int" "bool" = some false := by decide +kernel
theorem kit_tuple_tuple : kitB "tuple" "tuple" = some true := by decide +kernel
theorem kit_str_str : kitB "str" "str" = some true := by decide +kernel
theorem kit_int_str : kitB "int" "str" = some false := by decide +kernel
end DD

set_option maxHeartbeats 3999999
namespace DD
open PySem PySem.Spec PyProof.Rows L2 GG
section
variable {K : PySem.W.Frag} {b : BP}
/-- {} -/
def noneW : Wm := fun _ Q => Q (.d (.dict []))
theorem snd_dnew : Snd K b tDNewK noneW := by
  intro M0 H0 O σ H env r Qa hmz Q k
  intro p hpz
  have np : ¬ MO M0 O p := fun z => r.domO p z hpz
  exact k _ (.d (.dict [])) _ (Frm.new hpz) (r.bag.new hpz) (Dq.dict (.inl (fz_iff.mpr ⟨np, upd_same⟩)) .nil) hmz
end
end DD
namespace DD
open PySem PySem.Spec PyProof.Rows L2 GG
section
variable {K : PySem.W.Frag} {b : BP} {ta tbz : TE} {ma mb : Wm}
/-! ### zip of two lists -/
def itZW (ma mb : Wm) : Wi := fun env Q => ma env fun x => mb env fun y => ∃ ds es, x = .d (.list ds) ∧ y = .d (.list es) ∧ Q ((ds.zip es).map fun p => WI.p p.1 p.2)
theorem si_zip (haz : Snd K b ta ma) (hb : Snd K b tbz mb) : SndI K b (iZip K (tCons ta (tCons tbz tNil))) (itZW ma mb) := by
  intro M0 H0 O σ H env r Qa hmz R k
  refine haz M0 H0 O σ H env r _ hmz _ ?_
  intro v w H1 f1 g1 rp1 hm1
  refine hb M0 H0 O σ H1 env (r.after f1 g1) _ hm1 _ ?_
  rintro u w' H2 f2 g2 rp2 ⟨ds, es, rfl, rfl, q⟩
  have rp1 : Dq K (Fz (MO M0 O) H2) v (.list ds) := rp1.frm f2 r.mbO
  have rp2 : Dq K (Fz (MO M0 O) H2) u (.list es) := rp2
  cases rp1 with
  | lst hs1 dp1 =>
    cases rp2 with
    | lst hs2 dp2 =>
      rename_i a1 vs1 a2 vs2
      refine ⟨a1, a2, vs1, vs2, rfl, sqL_sub hs1, sqL_sub hs2, k _ _ H2 (f1.trans f2) g2 ⟨_, _, walk_zip (xs := vs1) (ys := vs2) (n := ((ds.zip es).map fun p => WI.p p.1 p.2).length) (by rw [List.length_map, List.length_zip, dpAll_len dp1, dpAll_len dp2]), ?_⟩ q⟩
      intro M' H' s dom
      refine ⟨⟨sqL_sub (s.seq hs1), sqL_sub (s.seq hs2)⟩, ?_⟩
      rintro i x Hx hi ⟨T, x1, x2, rfl, nT, rfl, ez1, ez2⟩
      obtain ⟨d, hdz, dx⟩ := dpAll_get dp1 ez1
      obtain ⟨e, hez, ex⟩ := dpAll_get dp2 ez2
      refine ⟨.p d e, ?_, fun a o z => by rw [upd_ne (ne_of_none z nT)]; exact z, ?_, nt_upd (by intro _ z; cases z)⟩
      · have hpz : (ds.zip es)[i]? = some (d, e) := List.getElem?_zip_eq_some.mpr ⟨hdz, hez⟩
        rw [List.getElem?_map, hpz]
        rfl
      · exact ⟨T, _, _, rfl, SqT.of upd_same, dp_mono (s.trans (fz_new nT)) _ _ dx, dp_mono (s.trans (fz_new nT)) _ _ ex⟩
end
end DD
namespace DD
open PySem PySem.Spec PyProof.Rows L2 GG
section
variable {K : PySem.W.Frag} {b : BP}
/-! ### all of truth values -/
theorem bools_rep {H : Hp} : ∀ {bs : List Bool} {us : List V}, DqAll K H us (bs.map PyData.bool) → us = bs.map V.bl
  | [], _, h => by
    cases h
    rfl
  | c :: bs, _, h => by
    cases h with
    | cons h1 h2 =>
      cases h1
      rw [bools_rep h2]
      rfl
def allF (ws : List W) (Q : W → Prop) : Prop := ∃ (w : W) (bs : List Bool), ws = [w] ∧ w.lst = some (bs.map PyData.bool) ∧ Q (.d (.bool (bs.all id)))
theorem rc_all : RC K b (rAll K) allF := by
  intro M H vs ws mb dom g p Qa h Q k
  obtain ⟨w, bs, rfl, e, q⟩ := h
  cases p with
  | cons rxz rest =>
    cases rest
    obtain ⟨a, us, rfl, hsv0, dp⟩ := rxz.lst e
    obtain rfl := bools_rep dp
    exact ⟨a, bs, rfl, hsv0, k _ (.d (.bool _)) H (Frm.refl _ _) g (Dq.bl _) q⟩
end
end DD
namespace DD
open PySem PySem.Spec PyProof.Rows L2 GG
/-! ### dict(t), t a tuple of pairs with distinct names -/
theorem put_new {kvs : List (Key × V)} {k : Key} {v : V} (h : k ∉ kvs.map Prod.fst) : putK kvs k v = kvs ++ [(k, v)] := by
  unfold putK
  rw [if_neg]
  intro z
  obtain ⟨p, hpz, e⟩ := List.any_eq_true.mp z
  exact h (List.mem_map.mpr ⟨p, hpz, of_decide_eq_true e⟩)
theorem merge_new : ∀ {kvs acc : List (Key × V)}, ((acc ++ kvs).map Prod.fst).Nodup → mergeK acc kvs = acc ++ kvs
  | [], acc, _ => by
    rw [List.append_nil]
    rfl
  | (k, v) :: kvs, acc, h => by
    have hk : k ∉ acc.map Prod.fst := by
      intro z
      rw [List.map_append, List.nodup_append] at h
      exact h.2.2 k z k (by simp) rfl
    show mergeK (putK acc k v) kvs = acc ++ (k, v) :: kvs
    rw [put_new hk, merge_new (by rw [List.append_assoc]; exact h), List.append_assoc]
    rfl
section
variable {K : PySem.W.Frag} {b : BP}
theorem pairs_kv {H : Hp} : ∀ {kds : List (Str × PD)} {vs : List V}, DqAll K H vs (kds.map pairD) → ∃ (ps : List Addr) (kvs : List (Key × V)), vs = ps.map V.ref ∧ Paired (fun p kv => SqT K H p [kV kv.1, kv.2]) ps kvs ∧ kvs.map Prod.fst = kds.map (fun p => (Sum.inr p.1 : Key)) ∧
    DqKv K H kvs (kds.map fun p => (PyData.str p.1, p.2))
  | [], vs, h => by
    cases h
    exact ⟨[], [], rfl, .nil, rfl, .nil⟩
  | (n, d) :: kds, vs, h => by
    cases h with
    | cons h1 h2 =>
      obtain ⟨ps, kvs, ez1, ez2, e3, e4⟩ := pairs_kv h2
      have h1 : Dq K H _ (.tuple [.str n, d]) := h1
      cases h1 with
      | tup hsv0 haz =>
        rename_i a us
        cases haz with
        | cons r1 rest =>
          cases rest with
          | cons r2 rest =>
            cases rest
            rename_i v1 v2
            have e : v1 = .str n := by
              cases r1
              rfl
            subst e
            exact ⟨a :: ps, (.inr n, v2) :: kvs, by rw [ez1]; rfl, .cons hsv0.sq ez2, by rw [List.map_cons, List.map_cons, e3], DqKv.cons (k := .inr n) r2 e4⟩
def dictTF (ws : List W) (Q : W → Prop) : Prop := ∃ (w : W) (kds : List (Str × PD)), ws = [w] ∧ w.tup = some (kds.map pairD) ∧ (kds.map Prod.fst).Nodup ∧ Q (.d (.dict (kds.map fun p => (PyData.str p.1, p.2))))
theorem rc_dictT : RC K b (rDictT K) dictTF := by
  intro M H vs ws mb dom g p Qa h Q k
  obtain ⟨w, kds, rfl, e, nd, q⟩ := h
  cases p with
  | cons rxz rest =>
    cases rest
    obtain ⟨a, us, rfl, hsv0, dp, td⟩ := rxz.tup e
    obtain ⟨ps, kvs, rfl, pp, ek, kv⟩ := pairs_kv dp
    refine ⟨a, ps, kvs, rfl, td, paired_up pp, fun p hpz => ?_⟩
    have ndk : (kvs.map Prod.fst).Nodup := by
      rw [ek]
      have := nodup_map_inj (f := fun z : Str => (Sum.inr z : Key)) (fun x y e => Sum.inr.inj e) nd
      rw [List.map_map] at this
      exact this
    rw [merge_new (acc := []) ndk, List.nil_append]
    have np : ¬ M p := fun z => dom p z hpz
    exact k _ (.d (.dict _)) _ (Frm.new hpz) (g.new hpz) (Dq.dict (.inl (fz_iff.mpr ⟨np, upd_same⟩)) (dpKv_mono (fz_new hpz) _ _ kv)) q
end
end DD

set_option maxHeartbeats 3999999
namespace DD
open PySem PySem.Spec PyProof.Rows L2 GG
section
variable {K : PySem.W.Frag} {b : BP} {t ta tbz te tk tv to : TE} {tas : TA} {m ma mb me mk mv mo : Wm} {ms : Wl} {M : Addr → Prop} {H : Hp} {v : V} {w : W}
/-! ### C() of an error class -/
def errW : Wm := fun _ Q => Q (.d (.dict errP))
theorem snd_err {C : Addr} {sp : Sp} (hC : ObjC K C) (hI : ∀ a H Q E, Q V.non H → sp [.ref a] H Q E) : Snd K b (tErr0 C sp) errW := by
  intro M0 H0 O σ H env r Qa hmz Q k a haz
  refine hI _ _ _ _ ⟨rfl, ?_⟩
  have np : ¬ MO M0 O a := fun z => r.domO a z haz
  refine k _ (.d (.dict errP)) _ (Frm.new haz) (r.bag.new haz (fun ps z => ?_)) (Dq.err (fz_iff.mpr ⟨np, upd_same⟩) hC rfl) hmz
  exact exo_tbl z
/-! ### {k: v} -/
theorem bag_put {H' : Hp} {p : Addr} {o u : HO} (g : Bag b H') (e : H' p = some o) (c : LamX.Tabs b.4 H' → LamX.Tabs b.4 (upd H' p u)) (n1 : p ≠ b.1) (n2 : p ≠ b.2) (n3 : p ≠ b.3) (nt : ∀ ps, u ≠ .tbl ps) : Bag b (upd H' p u) :=
  g.stay (upd_ne n1.symm) (upd_ne n2.symm) (by rw [upd_ne n3.symm]; exact g.there3) c (nt_upd nt)
theorem tabs_dk {T : List (Addr × Str)} {H : Hp} {p : Addr} {kvs kws : List (Key × V)} (h : H p = some (.dK kvs)) (t : LamX.Tabs T H) : LamX.Tabs T (upd H p (.dK kws)) := by
  intro q hqz
  obtain ⟨ps, ez1, ez2, e3⟩ := t q hqz
  refine ⟨ps, by rw [upd_ne (ne_of ez1 h (by intro z; cases z))]; exact ez1, ez2, fun pos cv hc => ?_⟩
  obtain ⟨c, c1, c2⟩ := e3 pos cv hc
  exact ⟨c, c1, by rw [upd_ne (ne_of c2 h (by intro z; unfold LamX.CodeO at z; cases z))]; exact c2⟩
theorem sqL_but {H H' : Hp} {a : Addr} {xs : List V} (s : ∀ a o, (∀ kvs, o ≠ .dK kvs) → H a = some o → H' a = some o) (h : SqL K H a xs) : SqL K H' a xs := by
  rcases h with (h | ⟨o, h⟩) | h
  · exact .inl (.inl (s _ _ (by intro _ z; cases z) h))
  · exact .inl (.inr ⟨o, s _ _ (by intro _ z; cases z) h⟩)
  · exact .inr h
theorem tupD_but {H H' : Hp} {a : Addr} {xs : List V} (s : ∀ a o, (∀ kvs, o ≠ .dK kvs) → H a = some o → H' a = some o) (h : TupD K H a xs) : TupD K H' a xs := by
  rcases h with ⟨o, h, r⟩ | h
  · exact .inl ⟨o, s _ _ (by intro _ z; cases z) h, r⟩
  · exact .inr h
mutual
/-- what has no dict stands where dicts change -/
theorem dq_but {H H' : Hp} (s : ∀ a o, (∀ kvs, o ≠ .dK kvs) → H a = some o → H' a = some o) : ∀ (d : PyData) (v : V), Dq K H v d → d.hasDict = false → Dq K H' v d
  | .none, _, h, _ => by cases h; exact .non
  | .bool _, _, h, _ => by cases h; exact .bl _
  | .int _, _, h, _ => by cases h; exact .int _
  | .str _, _, h, _ => by cases h; exact .str _
  | .list ds, _, h, n => by
    cases h with
    | lst hsv0 haz => exact .lst (sqL_but s hsv0) (dqAll_but s ds _ haz (by simpa only [PyData.hasDict] using n))
  | .tuple ds, _, h, n => by
    cases h with
    | tup hsv0 haz => exact .tup (tupD_but s hsv0) (dqAll_but s ds _ haz (by simpa only [PyData.hasDict] using n))
  | .dict _, _, _, n => by simp [PyData.hasDict] at n
theorem dqAll_but {H H' : Hp} (s : ∀ a o, (∀ kvs, o ≠ .dK kvs) → H a = some o → H' a = some o) : ∀ (ds : List PyData) (vs : List V), DqAll K H vs ds → PyData.hasDictAll ds = false → DqAll K H' vs ds
  | [], _, h, _ => by cases h; exact .nil
  | d :: ds, _, h, n => by
    simp only [PyData.hasDictAll, Bool.or_eq_false_iff] at n
    cases h with
    | cons h1 h2 => exact .cons (dq_but s d _ h1 n.1) (dqAll_but s ds _ h2 n.2)
end
def dis1W (mk mv : Wm) : Wm := fun env Q => mk env fun x => mv env fun y => ∃ k d, keyOf x = some k ∧ y = .d d ∧ d.hasDict = false ∧ Q (.d (.dict [(keyD k, d)]))
theorem snd_dis1 (hk : Snd K b tk mk) (hv : Snd K b tv mv) : Snd K b (tDisp [(tk, tv)]) (dis1W mk mv) := by
  intro M0 H0 O σ H env r Qa hmz Q k p hpz
  have f0 : Frm b H (upd H p (.dK [])) := Frm.new hpz
  have g0 : Bag b (upd H p (.dK [])) := r.bag.new hpz
  have np : ¬ MO M0 O p := fun z => r.domO p z hpz
  refine hk M0 H0 O σ (upd H p (.dK [])) env (r.after f0 g0) _ hmz _ ?_
  intro x wx H1 f1 g1 r1 hm1
  refine hv M0 H0 O σ H1 env ((r.after f0 g0).after f1 g1) _ hm1 _ ?_
  rintro y wy H2 f2 g2 r2 ⟨kk, d, ez1, rfl, nd, q⟩
  have pb := r.bag.off hpz
  have pc : p ≠ b.2 := fun z => r.bag.there2 (z ▸ hpz)
  have e0 : H2 p = some (.dK []) := (f1.trans f2) p _ pb upd_same
  refine ⟨e0, [(kk, y)], ?_, Nat.succ_le_succ (Nat.zero_le _), ?_⟩
  · rw [keyOf_rep (r1.frm f2 r.mbO) ez1]
    rfl
  · have fr : Frm b H (upd H2 p (.dK (mergeK [] [(kk, y)]))) := fun a o n e => by
      rw [upd_ne (ne_of_none e hpz)]
      exact ((f0.trans f1).trans f2) a o n e
    refine k _ (.d (.dict [(keyD kk, d)])) _ fr (bag_put g2 e0 (tabs_dk e0) pb.1 pc pb.2 (by intro _ z; cases z)) ?_ q
    refine Dq.dict (.inl (fz_iff.mpr ⟨np, upd_same⟩)) (.cons (dq_but (fun a o nk e => ?_) _ _ r2 nd) .nil)
    obtain ⟨n, e⟩ := fz_iff.mp e
    refine fz_iff.mpr ⟨n, ?_⟩
    rw [upd_ne (fun z => ?_)]
    · exact e
    · rw [z, e0] at e
      exact nk [] (Option.some.inj e).symm
end
end DD

set_option maxHeartbeats 3999999
namespace DD
open PySem PySem.Spec PyProof.Rows L2 GG
section
variable {K : PySem.W.Frag} {b : BP} {t ta tbz te tk tv to : TE} {tas : TA} {m ma mb me mk mv mo : Wm} {ms : Wl} {M : Addr → Prop} {H : Hp} {v : V} {w : W}
/-! ### list(d.values()) -/
theorem kv_all {H : Hp} : ∀ {kvs : List (Key × V)} {kds : List (PD × PD)}, DqKv K H kvs kds → DqAll K H (kvs.map (·.2)) (kds.map (·.2))
  | _, _, .nil => .nil
  | _, _, .cons h1 h2 => .cons h1 (kv_all h2)
def valsF (me : Wm) : Wf := fun env Q => me env fun w => ∃ kds, w = .d (.dict kds) ∧ kds ≠ errP ∧ Q (kds.map (·.2))
theorem snd_vals (h : Snd K b te me) : SndF K b (tListVals te) (valsF me) := by
  intro M0 H0 O σ H env r Qa hmz Q k
  refine h M0 H0 O σ H env r _ hmz _ ?_
  rintro v w H' f g rp ⟨kds, rfl, ne, q⟩
  obtain ⟨a, kvs, rfl, hr, hk⟩ := dict_rep ne rp
  refine ⟨a, kvs, rfl, rd_fz hr, fun p hpz => ?_⟩
  have pb : Off b p := g.off hpz
  refine k _ _ _ (f.trans (Frm.new hpz)) (g.new hpz) ⟨p, _, rfl, f.free hpz pb, upd_same, dpAll_mono (fz_same fun a o z e => ?_) _ _ (kv_all hk)⟩ q
  have nap := ne_of_none e hpz
  exact ⟨fun y => y.elim z nap, by rw [upd_ne nap]; exact e⟩
/-! ### texts -/
/-- s.removeprefix(p) -/
def rmpW (me : Wm) (ms : Wl) : Wm := fun env Q => me env fun w => ∃ z : Str, w = .d (.str z) ∧ ms env fun ws => ∃ y : Str, ws = [.d (.str y)] ∧ z.length ≤ sizeLine ∧ Q (.d (.str (Txt.removeprefix z y)))
theorem snd_rmp (h : Snd K b te me) (hsv0 : SndA K b tas ms) : Snd K b (tBM K "str" (fun x xs H Q => ∃ a b, x = .str a ∧ xs = [.str b] ∧ a.length ≤ sizeLine ∧ Q (.str (Txt.removeprefix a b)) H) te tas) (rmpW me ms) := by
  intro M0 H0 O σ H env r Qa hmz Q k
  refine h M0 H0 O σ H env r _ hmz _ ?_
  rintro v w H1 f1 g1 r1 ⟨z, rfl, hm1⟩
  obtain rfl := repStr r1
  refine ⟨rfl, ?_⟩
  refine hsv0 M0 H0 O σ H1 env (r.after f1 g1) _ hm1 _ ?_
  rintro us ws H2 f2 g2 r2 ⟨y, rfl, hzz, q⟩
  cases r2 with
  | cons ru rest =>
    cases rest
    obtain rfl := repStr ru
    exact ⟨z, y, rfl, rfl, hzz, k _ (.d (.str _)) H2 (f1.trans f2) g2 (Dq.str _) q⟩
/-- for c in s -/
def chrD (c : Nat) : PD := .str ⟨#[c]⟩
def itSW (me : Wm) : Wi := fun env Q => me env fun w => ∃ z : Str, w = .d (.str z) ∧ Q (z.cps.toList.map fun c => .d (chrD c))
theorem si_str (h : Snd K b te me) : SndI K b (iStr te) (itSW me) := by
  intro M0 H0 O σ H env r Qa hmz R k
  refine h M0 H0 O σ H env r _ hmz _ ?_
  rintro v w H1 f g' rp ⟨z, rfl, q⟩
  obtain rfl := repStr rp
  refine ⟨z, rfl, k _ _ H1 f g' ⟨_, _, by rw [List.length_map, Array.length_toList]; exact walk_str, ?_⟩ q⟩
  intro M' H' s dom
  refine ⟨True.intro, ?_⟩
  rintro i x Hx hi ⟨rfl, c, hc, rfl⟩
  exact ⟨.d (chrD c), by rw [List.getElem?_map, Array.getElem?_toList, hc]; rfl, Same.refl _, Dq.str _, fun _ _ e => e⟩
/-- x in s, texts -/
def inS (x y : Str) : Bool := !(Builtin.Str.occurrences y x 0 y.length 1).isEmpty
def inSF (neg : Bool) (x y : W) (Q : W → Prop) : Prop := ∃ i j : Str, x = .d (.str i) ∧ y = .d (.str j) ∧ Q (.d (.bool (if neg = true then !(inS i j) else inS i j)))
theorem rv_inS : RV2 K b (fun x y H Q => ∃ i j, x = .str i ∧ y = .str j ∧ Q (.bl (!(Builtin.Str.occurrences j i 0 j.length 1).isEmpty)) H) (inSF false) := by
  intro M H x y wx wy mb dom g rxz ryz Qa h Q k
  obtain ⟨i, j, rfl, rfl, q⟩ := h
  exact ⟨i, j, repStr rxz, repStr ryz, k _ (.d (.bool _)) H (Frm.refl _ _) g (Dq.bl _) q⟩
theorem rv_notInS : RV2 K b (fun x y H Q => ∃ i j, x = .str i ∧ y = .str j ∧ Q (.bl (!(!(Builtin.Str.occurrences j i 0 j.length 1).isEmpty))) H) (inSF true) := by
  intro M H x y wx wy mb dom g rxz ryz Qa h Q k
  obtain ⟨i, j, rfl, rfl, q⟩ := h
  exact ⟨i, j, repStr rxz, repStr ryz, k _ (.d (.bool _)) H (Frm.refl _ _) g (Dq.bl _) q⟩
/-- s[lo:hi] -/
def slSW (me : Wm) (ml mh : Wo) : Wm := fun env Q => me env fun w => ml env fun lo => mh env fun hi => ∃ z : Str, w = .d (.str z) ∧ z.length ≤ sizeLine ∧ Q (.d (.str (Txt.slice z lo hi)))
theorem snd_slS {tl th : TO} {ml mh : Wo} (h : Snd K b te me) (hlz0 : SndO K b tl ml) (hh : SndO K b th mh) : Snd K b (tSl C8.rSlX te tl th) (slSW me ml mh) := by
  intro M0 H0 O σ H env r Qa hmz Q k
  refine h M0 H0 O σ H env r _ hmz _ ?_
  intro v w H1 f1 g1 rp hm1
  refine hlz0 M0 H0 O σ H1 env (r.after f1 g1) _ hm1 _ ?_
  intro lo H2 f2 g2 hm2
  refine hh M0 H0 O σ H2 env ((r.after f1 g1).after f2 g2) _ hm2 _ ?_
  rintro hi H3 f3 g3 ⟨z, rfl, hzz, q⟩
  exact ⟨z, repStr rp, hzz, k _ (.d (.str _)) H3 ((f1.trans f2).trans f3) g3 (Dq.str _) q⟩
/-- s + t, s * n -/
def catSF (x y : W) (Q : W → Prop) : Prop := ∃ i j : Str, x = .d (.str i) ∧ y = .d (.str j) ∧ i.length + j.length ≤ sizeLine ∧ Q (.d (.str (i ++ j)))
theorem rv_catS : RV2 K b (fun x y H Q => ∃ i j, x = .str i ∧ y = .str j ∧ i.length + j.length ≤ sizeLine ∧ Q (.str (i ++ j)) H) catSF := by
  intro M H x y wx wy mb dom g rxz ryz Qa h Q k
  obtain ⟨i, j, rfl, rfl, hzz, q⟩ := h
  exact ⟨i, j, repStr rxz, repStr ryz, hzz, k _ (.d (.str _)) H (Frm.refl _ _) g (Dq.str _) q⟩
def repSF (x y : W) (Q : W → Prop) : Prop := ∃ (z : Str) (n : Nat), x = .d (.str z) ∧ y = .d (.int (n : Int)) ∧ 1 < n ∧ n < 2 ^ 30 ∧ z.length ≠ 0 ∧ z.length * n ≤ 2 ^ 20 ∧ Q (.d (.str (repS z n)))
theorem rv_repS : RV2 K b rRepS repSF := by
  intro M H x y wx wy mb dom g rxz ryz Qa h Q k
  obtain ⟨z, n, rfl, rfl, h1, h2, h3, h4, q⟩ := h
  exact ⟨z, n, repStr rxz, repInt ryz, h1, h2, h3, h4, k _ (.d (.str _)) H (Frm.refl _ _) g (Dq.str _) q⟩
/-! ### int(s), int(i), str(i), sum -/
def intSF (ws : List W) (Q : W → Prop) : Prop := ∃ (z : Str) (n : Int), ws = [.d (.str z)] ∧ PySem.intText? z = some n ∧ z.length ≤ 640 ∧ Q (.d (.int n))
theorem rc_intS : RC K b (fun xs H Q => ∃ a n, xs = [.str a] ∧ PySem.intText? a = some n ∧ a.length ≤ 640 ∧ Q (.int n) H) intSF := by
  intro M H vs ws mb dom g p Qa h Q k
  obtain ⟨z, n, rfl, ez1, ez2, q⟩ := h
  cases p with
  | cons rxz rest =>
    cases rest
    obtain rfl := repStr rxz
    exact ⟨z, n, rfl, ez1, ez2, k _ (.d (.int n)) H (Frm.refl _ _) g (Dq.int _) q⟩
def intIF (ws : List W) (Q : W → Prop) : Prop := ∃ n : Int, ws = [.d (.int n)] ∧ Q (.d (.int n))
theorem rc_intI : RC K b (fun xs H Q => (∃ i, xs = [.int i] ∧ Q (.int i) H) ∨ ∃ k, xs = [.bl k] ∧ Q (.int (if k then 1 else 0)) H) intIF := by
  intro M H vs ws mb dom g p Qa h Q k
  obtain ⟨n, rfl, q⟩ := h
  cases p with
  | cons rxz rest =>
    cases rest
    obtain rfl := repInt rxz
    exact .inl ⟨n, rfl, k _ (.d (.int n)) H (Frm.refl _ _) g (Dq.int _) q⟩
def strIF (ws : List W) (Q : W → Prop) : Prop := ∃ n : Int, ws = [.d (.int n)] ∧ n.natAbs.log2 < 1920 ∧ Q (.d (.str (toString n)))
theorem rc_strI : RC K b (fun xs H Q => ∃ i, xs = [.int i] ∧ i.natAbs.log2 < 1920 ∧ Q (.str (toString i)) H) strIF := by
  intro M H vs ws mb dom g p Qa h Q k
  obtain ⟨n, rfl, hnz, q⟩ := h
  cases p with
  | cons rxz rest =>
    cases rest
    obtain rfl := repInt rxz
    exact ⟨n, rfl, hnz, k _ (.d (.str _)) H (Frm.refl _ _) g (Dq.str _) q⟩
theorem ints_rep {H : Hp} : ∀ {ns : List Int} {us : List V}, DqAll K H us (ns.map PyData.int) → us = ns.map V.int
  | [], _, h => by
    cases h
    rfl
  | n :: ns, _, h => by
    cases h with
    | cons h1 h2 =>
      cases h1
      rw [ints_rep h2]
      rfl
def sumF (ws : List W) (Q : W → Prop) : Prop := ∃ (w : W) (ns : List Int), ws = [w] ∧ w.lst = some (ns.map PyData.int) ∧ Q (.d (.int ns.sum))
theorem rc_sum : RC K b (rSum K) sumF := by
  intro M H vs ws mb dom g p Qa h Q k
  obtain ⟨w, ns, rfl, e, q⟩ := h
  cases p with
  | cons rxz rest =>
    cases rest
    obtain ⟨a, us, rfl, hsv0, dp⟩ := rxz.lst e
    obtain rfl := ints_rep dp
    exact ⟨a, ns, rfl, hsv0, k _ (.d (.int _)) H (Frm.refl _ _) g (Dq.int _) q⟩
/-! ### len(d) -/
def rLenD : List V → Hp → VK → Prop := fun xs H Q => ∃ a kvs, xs = [V.ref a] ∧ Rd H a (.dK kvs) ∧ Q (.int (kvs.length : Nat)) H
theorem call_lenRd {X : Cx} : CallR X (.builtin "len") rLenD := by
  intro pins s σ H xs us Q I r h
  obtain ⟨a, kvs, rfl, hr, q⟩ := h
  obtain ⟨u, rfl, ru⟩ := vals1 r
  cases ru
  exact d_len I hr fun t s' J => ⟨.int (kvs.length : Nat), H, J, ⟨t, rfl⟩, q⟩
theorem kv_len {H : Hp} : ∀ {kvs : List (Key × V)} {kds : List (PD × PD)}, DqKv K H kvs kds → kvs.length = kds.length
  | _, _, .nil => rfl
  | _, _, .cons _ h2 => congrArg (· + 1) (kv_len h2)
def lenDF (ws : List W) (Q : W → Prop) : Prop := ∃ kds, ws = [.d (.dict kds)] ∧ kds ≠ errP ∧ Q (.d (.int (kds.length : Nat)))
theorem rc_lenD : RC K b rLenD lenDF := by
  intro M H vs ws mb dom g p Qa h Q k
  obtain ⟨kds, rfl, ne, q⟩ := h
  cases p with
  | cons rxz rest =>
    cases rest
    obtain ⟨a, kvs, rfl, hr, hk⟩ := dict_rep ne rxz
    refine ⟨a, kvs, rfl, rd_fz hr, ?_⟩
    rw [kv_len hk]
    exact k _ (.d (.int _)) H (Frm.refl _ _) g (Dq.int _) q
/-! ### dict(enumerate(t)) -/
def numD (n : Nat) : List PD → List (PD × PD)
  | [] => []
  | d :: ds => (.int (n : Nat), d) :: numD (n + 1) ds
theorem numK_go {H : Hp} : ∀ {xs : List V} {ds : List PD} (n : Nat), DqAll K H xs ds → DqKv K H (xs.mapIdx fun i x => ((.inl ((i + n : Nat) : Int) : Key), x)) (numD n ds)
  | _, _, _, .nil => .nil
  | _, _, n, .cons (v := v) (vs := vs) h1 h2 => by
    rw [List.mapIdx_cons]
    have e : (fun i x => ((.inl ((i + 1 + n : Nat) : Int) : Key), x)) = (fun (i : Nat) (x : V) => ((.inl ((i + (n + 1) : Nat) : Int) : Key), x)) := by
      funext i x
      rw [show i + 1 + n = i + (n + 1) by omega]
    rw [e]
    have e0 : ((0 + n : Nat) : Int) = (n : Int) := by omega
    rw [e0]
    exact .cons (k := .inl (n : Int)) h1 (numK_go (n + 1) h2)
theorem numK_nodup (xs : List V) : ((numK xs).map Prod.fst).Nodup := by
  have e : (numK xs).map Prod.fst = (List.range xs.length).map fun (i : Nat) => (Sum.inl (i : Int) : Key) := by
    unfold numK
    apply List.ext_getElem?
    intro i
    rw [List.getElem?_map, List.getElem?_mapIdx, List.getElem?_map]
    by_cases h : i < xs.length
    · rw [List.getElem?_eq_getElem h, List.getElem?_range h]
      rfl
    · rw [List.getElem?_eq_none (by omega), List.getElem?_eq_none (by rw [List.length_range]; omega)]
      rfl
  rw [e]
  refine nodup_map_inj (fun x y z => ?_) List.nodup_range
  have z : (x : Int) = (y : Int) := Sum.inl.inj z
  omega
def dictEnW (me : Wm) : Wm := fun env Q => me env fun w => ∃ ds, w.tup = some ds ∧ Q (.d (.dict (numD 0 ds)))
theorem snd_dictEn (h : Snd K b te me) : Snd K b (tDictEnumT K (tCons te tNil)) (dictEnW me) := by
  intro M0 H0 O σ H env r Qa hmz Q k
  refine h M0 H0 O σ H env r _ hmz _ ?_
  rintro v w H' f g rp ⟨ds, e, q⟩
  obtain ⟨a, vs, rfl, hsv0, dp, _⟩ := rp.tup e
  refine ⟨a, vs, rfl, hsv0, fun p hpz => ?_⟩
  have em : mergeK [] (numK vs) = numK vs := merge_new (acc := []) (numK_nodup vs)
  rw [em]
  have np : ¬ MO M0 O p := fun z => (r.after f g).domO p z hpz
  refine k _ (.d (.dict _)) _ (f.trans (Frm.new hpz)) (g.new hpz) (Dq.dict (.inl (fz_iff.mpr ⟨np, upd_same⟩)) (dpKv_mono (fz_new hpz) _ _ ?_)) q
  exact numK_go 0 dp
/-! ### zip of a list and a tuple -/
def itZLW (ma mb : Wm) : Wi := fun env Q => ma env fun x => mb env fun y => ∃ ds es, x = .d (.list ds) ∧ y = .d (.tuple es) ∧ Q ((ds.zip es).map fun p => WI.p p.1 p.2)
theorem si_zipL (haz : Snd K b ta ma) (hb : Snd K b tbz mb) : SndI K b (iZipLT K (tCons ta (tCons tbz tNil))) (itZLW ma mb) := by
  intro M0 H0 O σ H env r Qa hmz R k
  refine haz M0 H0 O σ H env r _ hmz _ ?_
  intro v w H1 f1 g1 rp1 hm1
  refine hb M0 H0 O σ H1 env (r.after f1 g1) _ hm1 _ ?_
  rintro u w' H2 f2 g2 rp2 ⟨ds, es, rfl, rfl, q⟩
  have rp1 : Dq K (Fz (MO M0 O) H2) v (.list ds) := rp1.frm f2 r.mbO
  have rp2 : Dq K (Fz (MO M0 O) H2) u (.tuple es) := rp2
  cases rp1 with
  | lst hs1 dp1 =>
    cases rp2 with
    | tup hs2 dp2 =>
      rename_i a1 vs1 a2 vs2
      refine ⟨a1, a2, vs1, vs2, rfl, sqL_sub hs1, (hs2.mono fz_sub).sq, k _ _ H2 (f1.trans f2) g2 ⟨_, _, walk_zipLT (xs := vs1) (ys := vs2) (n := ((ds.zip es).map fun p => WI.p p.1 p.2).length) (by rw [List.length_map, List.length_zip, dpAll_len dp1, dpAll_len dp2]), ?_⟩ q⟩
      intro M' H' s dom
      refine ⟨⟨sqL_sub (s.seq hs1), ((hs2.mono s).mono fz_sub).sq⟩, ?_⟩
      rintro i x Hx hi ⟨T, x1, x2, rfl, nT, rfl, ez1, ez2⟩
      obtain ⟨d, hdz, dx⟩ := dpAll_get dp1 ez1
      obtain ⟨e, hez, ex⟩ := dpAll_get dp2 ez2
      refine ⟨.p d e, ?_, fun a o z => by rw [upd_ne (ne_of_none z nT)]; exact z, ?_, nt_upd (by intro _ z; cases z)⟩
      · have hpz : (ds.zip es)[i]? = some (d, e) := List.getElem?_zip_eq_some.mpr ⟨hdz, hez⟩
        rw [List.getElem?_map, hpz]
        rfl
      · exact ⟨T, _, _, rfl, SqT.of upd_same, dp_mono (s.trans (fz_new nT)) _ _ dx, dp_mono (s.trans (fz_new nT)) _ _ ex⟩
end
end DD

set_option maxHeartbeats 3999999
/-! the bag of a law, raw -/
namespace LL
open PySem PySem.Spec PyProof.Rows L2 GG DD
def top (i : Nat) : Stmt := PySem.Challenge.pw_everyversion_k01_ways_led_and_what_fits.main.body.getD i (.Pass ⟨0, 0, 0, 0⟩)
/-- xs[i] for the augmented assignment -/
theorem get_ix {X : Cx} : PGet X (fun o i H Q => ∃ p xs k v, o = .ref p ∧ i = .int k ∧ 0 ≤ k ∧ k < 64 ∧ SqL X.K H p xs ∧ xs[k.toNat]? = some v ∧ Q v H) := by
  intro pins s σ H o i ov iv Q I ro ri h
  obtain ⟨p, xs, k, v, rfl, rfl, k0, k1, hsv0, hv, q⟩ := h
  cases ro
  obtain ⟨t, rfl⟩ := ri
  obtain ⟨itz, r, plz, hzz⟩ := I.list hsv0
  obtain ⟨u, eu, ru⟩ := r.get hv
  exact getItem_listL plz.isList k0 (by omega) eu ⟨v, H, I, ru, q⟩
/-- the bag, itz numbers told -/
structure BagV (b : BP) (H : Hp) (z st n : Int) (cs : List Int) : Prop where
  x : H b.1 = some (.lst [.int z, .int st, .int n, .ref b.2])
  ne : b.2 ≠ b.1
  y : H b.2 = some (.lst (cs.map V.int))
  z0 : 0 ≤ z
  s0 : 0 ≤ st
  s1 : st < 2147483647
  n0 : 0 ≤ n
  len : cs.length ≤ 63
  c0 : ∀ x ∈ cs, 0 ≤ x
  t : H b.3 ≠ none
  tabs : LamX.Tabs b.4 H
  only : ∀ a ps, H a = some (.tbl ps) → a = b.3
theorem BagV.bag {b : BP} {H : Hp} {z st n : Int} {cs : List Int} (h : BagV b H z st n cs) : Bag b H := ⟨z, st, n, cs, h.x, h.ne, h.y, h.z0, h.s0, h.s1, h.n0, h.len, h.c0, h.t, h.tabs, h.only⟩
theorem bagv {b : BP} {H : Hp} (h : Bag b H) : ∃ z st n cs, BagV b H z st n cs := by
  obtain ⟨z, st, n, cs, h1, h2, h3, h4, h5, h6, h7, h8, h9, h10, h11, h12⟩ := h
  exact ⟨z, st, n, cs, h1, h2, h3, h4, h5, h6, h7, h8, h9, h10, h11, h12⟩
theorem BagV.put {b : BP} {H : Hp} {z st n : Int} {cs : List Int} (h : BagV b H z st n cs) {z' st' n' : Int} (z0 : 0 ≤ z') (s0 : 0 ≤ st') (s1 : st' < 2147483647) (n0 : 0 ≤ n') :
    BagV b (upd H b.1 (.lst [.int z', .int st', .int n', .ref b.2])) z' st' n' cs ∧ Frm b H (upd H b.1 (.lst [.int z', .int st', .int n', .ref b.2])) := by
  refine ⟨⟨upd_same, h.ne, by rw [upd_ne h.ne]; exact h.y, z0, s0, s1, n0, h.len, h.c0, ?_, tabs_lst h.x h.tabs, fun a ps e => h.only a ps (nt_upd (by intro _ z; cases z) a ps e)⟩, fun a o f e => by rw [upd_ne f.1]; exact e⟩
  by_cases e : b.3 = b.1
  · rw [e, upd_same]
    exact fun z => nomatch z
  · rw [upd_ne e]
    exact h.t
theorem BagV.new {b : BP} {H : Hp} {z st n : Int} {cs : List Int} (h : BagV b H z st n cs) {p : Addr} {o : HO} (hpz : H p = none) (nt : ∀ ps, o ≠ .tbl ps := by intro _ z; cases z) : BagV b (upd H p o) z st n cs ∧ Frm b H (upd H p o) := by
  have g := h.bag.new hpz nt
  refine ⟨⟨by rw [upd_ne (ne_of_none h.x hpz)]; exact h.x, h.ne, by rw [upd_ne (ne_of_none h.y hpz)]; exact h.y, h.z0, h.s0, h.s1, h.n0, h.len, h.c0, g.there3, ?_, ?_⟩, Frm.new hpz⟩
  · obtain ⟨_, _, _, _, _, _, _, _, _, _, _, _, _, _, t, _⟩ := g
    exact t
  · obtain ⟨_, _, _, _, _, _, _, _, _, _, _, _, _, _, _, t⟩ := g
    exact t
theorem cmulR {i j : Int} (h1 : -18446744073709551616 < j) (h2 : j < 18446744073709551616) : CMul i j := .inr ⟨by rw [show (2 : Int) ^ 64 = 18446744073709551616 by decide]; exact h1, by rw [show (2 : Int) ^ 64 = 18446744073709551616 by decide]; exact h2⟩
theorem cmulL {i j : Int} (h1 : -18446744073709551616 < i) (h2 : i < 18446744073709551616) : CMul i j := .inl ⟨by rw [show (2 : Int) ^ 64 = 18446744073709551616 by decide]; exact h1, by rw [show (2 : Int) ^ 64 = 18446744073709551616 by decide]; exact h2⟩
theorem modR {i j : Int} (h : 0 < j) : 0 ≤ i % j ∧ i % j < j := ⟨Int.emod_nonneg _ (by omega), Int.emod_lt_of_pos _ h⟩
theorem t_ix {K : PySem.W.Frag} {σ : LSt} {H : Hp} {Q : VK} {x : Addr} {ls : List V} {i : Int} {v : V} {j : Nat} (e : σ[j]? = some (some (.ref x))) (hxz : H x = some (.lst ls)) (hv : atI ls i = some v) (q : Q v H) : tOp (rIx K) (tVar j) (tC (.int i)) σ H Q :=
  ⟨_, e, .inl ⟨x, ls, i, v, rfl, rfl, SqL.of hxz, hv, q⟩⟩
theorem seq_of {t u : TS} {D : Ends} {σ : LSt} {H : Hp} (R : LSt → Hp → Prop) (tail : ∀ σ' H', R σ' H' → u D σ' H') (h : (∀ σ' H', R σ' H' → u D σ' H') → t { D with nx := u D } σ H) : tSeq t u D σ H := h tail
theorem cell_of {cs : List Int} {c : Int} (h0 : ∀ x ∈ cs, 0 ≤ x) (hc : 0 ≤ c) : ∃ x : Int, 0 ≤ x ∧ atI (cutV (cs.map V.int) (some c) none ++ [V.int 0]) 0 = some (V.int x) := by
  have e : ∃ ds : List Int, cutV (cs.map V.int) (some c) none = ds.map V.int ∧ ∀ x ∈ ds, 0 ≤ x := by
    unfold cutV
    exact ⟨(cs.drop (HT.sIx (cs.map V.int).length 0 (some c))).take (HT.sIx (cs.map V.int).length (cs.map V.int).length none - HT.sIx (cs.map V.int).length 0 (some c)), by rw [List.map_take, List.map_drop], fun x hxz => h0 x (List.mem_of_mem_drop (List.mem_of_mem_take hxz))⟩
  obtain ⟨ds, e, hdz⟩ := e
  rw [e]
  cases ds with
  | nil => exact ⟨0, Int.le_refl _, rfl⟩
  | cons d ds =>
    refine ⟨d, hdz d List.mem_cons_self, ?_⟩
    unfold atI ixN
    rw [if_pos (Int.le_refl 0), if_pos (by simp only [List.map_cons, List.cons_append, List.length_cons]; omega)]
    rfl
def takeF : Fm := fun ws Q => ∃ n : Int, ws = [.bag, .d (.int n)] ∧ 1 ≤ n ∧ n < 1073741824 ∧ ∀ v : Int, 0 ≤ v → v < n → Q (.d (.int v))
abbrev sTake : Stmt := top 22
theorem scTake : FnScope ["bag", "many", "cell", "stirred", "value", "begin", "second"] ["bag", "many"] (defScope sTake) := ⟨rfl, rfl, rfl, by decide +kernel, rfl, by decide +kernel, by decide +kernel⟩
section
variable {P : Program} {w : World} {K : PySem.W.Frag} {mg : Str → Option Value} {base : Heap}
theorem ok_take {f : Addr} {fd : FuncData} {b : BP} (F : L2.Fun K "_law_take" "_law_take" sTake f fd) (mI : mg "int" = none) : GFn P w K mg base CX0 1 f fd ["bag", "many"] (spD K b 2 takeF) := by
  refine okG F scTake (fun vs H Q E h => h.1) ?_
  intro cdv A o s H vs Q E rm h
  have c0 : ∀ X : Cx, IxR X (rIx X.K) := fun X => ix_seq
  refine ⟨_, pss_cons (ps_if (pt_cmpR op_eq (pe_ix ix_seq (pv 0) pe_int (fun _ _ => rfl)) pe_int (nomark _))
      (pss_cons (ps_set (i := 2) scTake.nd rfl (Or.inl rfl) (pe_ix ix_seq (pe_op op_cat (pe_slice sl_list (pe_ix ix_seq (pv 0) pe_int (fun _ _ => rfl)) (po_some (pe_ix ix_seq (pv 0) pe_int (fun _ _ => rfl))) po_none) (pe_lst (pa_cons pe_int pa_nil))) pe_int (fun _ _ => rfl)))
      (pss_cons (ps_augS (pv 0) pe_int get_ix pe_int ip_add set_list)
      (pss_cons (ps_if (pt_cmpR op_ge (pv 2) (pe_op op_pow pe_int pe_int) (nomark _)) (pss_one (ps_asg (pv 2) (pg_sub (pv 0) pe_int set_list))) pss_nil)
      (pss_cons (ps_set (i := 3) scTake.nd rfl (Or.inl rfl) (pe_op op_add (pe_op op_add (pe_op op_mul (pe_ix ix_seq (pv 0) pe_int (fun _ _ => rfl)) pe_int) (pe_op op_mod (pe_callTy call_int1 (by rfl) mI (by rfl) (pa_cons (pv 2) pa_nil)) pe_int)) (pe_op op_mul pe_int (pe_ix ix_seq (pv 0) pe_int (fun _ _ => rfl)))))
      (pss_one (ps_asg (pe_op op_mod (pe_callTy call_int1 (by rfl) mI (by rfl) (pa_cons (pv 3) pa_nil)) pe_int) (pg_sub (pv 0) pe_int set_list))))))) pss_nil)
    (pss_cons (ps_if (pt_cmpR op_gt (pe_ix ix_seq (pv 0) pe_int (fun _ _ => rfl)) pe_int (nomark _))
      (pss_cons (ps_set (i := 4) scTake.nd rfl (Or.inl rfl) (pe_op op_mod (pe_callTy call_int1 (by rfl) mI (by rfl) (pa_cons (pe_ix ix_seq (pv 0) pe_int (fun _ _ => rfl)) pa_nil)) (pv 1)))
      (pss_cons (ps_asg (pe_op op_fdivN (pe_callTy call_int1 (by rfl) mI (by rfl) (pa_cons (pe_ix ix_seq (pv 0) pe_int (fun _ _ => rfl)) pa_nil)) (pv 1)) (pg_sub (pv 0) pe_int set_list))
      (pss_one (ps_ret (pv 4))))) pss_nil)
    (pss_cons (ps_set (i := 5) scTake.nd rfl (Or.inl rfl) (pe_op op_mod (pe_callTy call_int1 (by rfl) mI (by rfl) (pa_cons (pe_op op_mul (pe_op op_add (pe_ix ix_seq (pv 0) pe_int (fun _ _ => rfl)) pe_int) pe_int) pa_nil)) pe_int))
    (pss_cons (ps_set (i := 6) scTake.nd rfl (Or.inl rfl) (pe_op op_mod (pe_callTy call_int1 (by rfl) mI (by rfl) (pa_cons (pe_op op_mul (pe_op op_mod (pe_callTy call_int1 (by rfl) mI (by rfl) (pa_cons (pe_op op_mul (pv 5) (pv 5)) pa_nil)) pe_int) pe_int) pa_nil)) pe_int))
    (pss_one (ps_ret (pe_op op_mod (pe_callTy call_int1 (by rfl) mI (by rfl) (pa_cons (pe_op op_fdiv (pv 6) pe_int) pa_nil)) (pv 1))))))), ?_⟩
  obtain ⟨hlz0, M, ws, Qa, m1, m2, dom, g, p, ⟨n, rfl, n1, n2, hqz⟩, k⟩ := h
  obtain ⟨z, st, c, cs, bv⟩ := bagv g
  cases p with
  | cons r1 rest =>
  cases rest with
  | cons r2 rest =>
  cases rest
  rename_i v1 v2
  obtain rfl := repInt r2
  obtain rfl : v1 = .ref b.1 := r1
  have n63 : (2 : Int) ^ 63 = 9223372036854775808 := by decide
  have n64 : (2 : Int) ^ 64 = 18446744073709551616 := by decide
  have fin : ∀ (H' : Hp) (v : Int), Frm b H H' → Bag b H' → 0 ≤ v → v < n → Q (.int v) H' := fun H' v f' g' h0 h1 => k _ (.d (.int v)) H' f' g' (Dq.int v) (hqz v h0 h1)
  refine seq_of (fun σ' H' => ∃ (z st c : Int) (s2 s3 : Option V), σ' = [some (.ref b.1), some (.int n), s2, s3, none, none, none] ∧ BagV b H' z st c cs ∧ Frm b H H') ?_ ?_
  · rintro σ' H1 ⟨z, st, c, s2, s3, rfl, bv, fr⟩
    refine seq_of (fun σ' H' => ∃ (s2 s3 : Option V), σ' = [some (.ref b.1), some (.int n), s2, s3, none, none, none] ∧ BagV b H' z st c cs ∧ Frm b H H') ?_ ?_
    · rintro σ' H2 ⟨s2, s3, rfl, bv, fr⟩
      refine t_ix rfl bv.x rfl ⟨_, _, rfl, rfl, _, _, rfl, rfl, cmulR (by decide) (by decide), .inl ⟨_, rfl, _, _, rfl, rfl, (show (0 : Int) < 1000000007 by decide), ?_⟩⟩
      obtain ⟨e0, ez1⟩ := modR (i := (st + 1) * 39373) (j := 1000000007) (by decide)
      refine ⟨_, rfl, _, rfl, _, _, rfl, rfl, cmulR (by omega) (by omega), .inl ⟨_, rfl, _, _, rfl, rfl, (show (0 : Int) < 998244353 by decide), _, _, rfl, rfl, cmulR (by decide) (by decide), .inl ⟨_, rfl, _, _, rfl, rfl, (show (0 : Int) < 998244353 by decide), ?_⟩⟩⟩
      refine ⟨_, rfl, _, _, rfl, rfl, ⟨by decide, by decide⟩, .inl ⟨_, rfl, _, rfl, _, _, rfl, rfl, (show 0 < n by omega), ?_⟩⟩
      exact fin _ _ fr bv.bag (modR (by omega)).1 (modR (by omega)).2
    · intro tail
      refine t_ix rfl bv.x rfl ⟨_, _, rfl, rfl, _, rfl, ?_⟩
      refine ite2 (fun hzz => ?_) (fun hzz => ?_)
      · have z1 : 0 < z := of_decide_eq_true hzz
        refine t_ix rfl bv.x rfl (.inl ⟨_, rfl, _, rfl, _, _, rfl, rfl, (show 0 < n by omega), ?_⟩)
        refine t_ix rfl bv.x rfl (.inl ⟨_, rfl, _, rfl, _, _, rfl, rfl, ⟨by omega, by omega⟩, ?_⟩)
        have dz : 0 ≤ z.fdiv n := by
          rw [Int.fdiv_eq_ediv_of_nonneg _ (by omega)]
          exact Int.ediv_nonneg (by omega) (by omega)
        obtain ⟨bv2, fr2⟩ := bv.put (n' := c) dz bv.s0 bv.s1 bv.n0
        refine ⟨_, rfl, _, _, _, 0, rfl, rfl, bv.x, rfl, ?_⟩
        refine ⟨_, rfl, ?_⟩
        exact fin _ _ (fr.trans fr2) bv2.bag (modR (by omega)).1 (modR (by omega)).2
      · exact tail _ _ ⟨s2, s3, rfl, bv, fr⟩
  · intro tail
    refine t_ix rfl bv.x rfl ⟨rfl, _, rfl, ?_⟩
    refine ite2 (fun hzz => ?_) (fun hzz => tail _ _ ⟨z, st, c, none, none, rfl, bv, Frm.refl _ _⟩)
    refine t_ix rfl bv.x rfl (t_ix rfl bv.x rfl ⟨c, rfl, ?_⟩)
    refine ⟨_, _, rfl, SqL.of bv.y, fun p1 h1 => ?_⟩
    obtain ⟨bv1, fr1⟩ := bv.new (o := .lst (cutV (cs.map V.int) (some c) none)) h1
    refine ⟨by rw [sizeLine_eq]; decide, fun p2 h2 => ?_⟩
    obtain ⟨bv2, fr2⟩ := bv1.new (o := .lst [.int 0]) h2
    have n12 : p1 ≠ p2 := ne_of_none upd_same h2
    refine ⟨p1, p2, _, _, rfl, rfl, by rw [upd_ne n12]; exact upd_same, upd_same, ?_, fun p3 h3 => ?_⟩
    · have l1 := cutV_length (cs.map V.int) (some c) none
      rw [List.length_map] at l1
      have l2 := bv.len
      rw [sizeLine_eq, List.length_singleton]
      omega
    obtain ⟨bv3, fr3⟩ := bv2.new (o := .lst (cutV (cs.map V.int) (some c) none ++ [.int 0])) h3
    obtain ⟨x, x0, hxz⟩ := cell_of (c := c) bv.c0 bv.n0
    refine .inl ⟨p3, _, 0, _, rfl, rfl, SqL.of upd_same, hxz, ?_⟩
    refine ⟨_, rfl, _, _, 2, _, rfl, rfl, by decide, by decide, SqL.of bv3.x, rfl, _, _, rfl, rfl, _, _, 2, 2, rfl, rfl, bv3.x, rfl, ?_⟩
    obtain ⟨bv4, fr4⟩ := bv3.put (z' := z) (st' := st) (n' := c + 1) bv.z0 bv.s0 bv.s1 (by have := bv.n0; omega)
    have f4 := ((fr1.trans fr2).trans fr3).trans fr4
    dsimp only
    refine seq_of (t := tIfS _ _ _) (fun σ' H' => ∃ z : Int, σ' = [some (.ref b.1), some (.int n), some (.int x), none, none, none, none] ∧ BagV b H' z st (c + 1) cs ∧ Frm b H H') ?_ ?_
    · rintro σ' H5 ⟨z, rfl, bv5, f5⟩
      refine t_ix rfl bv5.x rfl ⟨_, _, rfl, rfl, cmulR (by decide) (by decide), _, rfl, .inl ⟨_, rfl, _, _, rfl, rfl, (show (0 : Int) < 2147483647 by decide), _, _, rfl, rfl, ?_⟩⟩
      refine t_ix rfl bv5.x rfl ⟨_, _, rfl, rfl, cmulL (by decide) (by decide), _, _, rfl, rfl, ?_⟩
      refine ⟨_, rfl, .inl ⟨_, rfl, _, _, rfl, rfl, (show (0 : Int) < 2147483647 by decide), _, rfl, _, _, 1, 1, rfl, rfl, bv5.x, rfl, ?_⟩⟩
      obtain ⟨bv6, fr6⟩ := bv5.put (z' := z) (st' := (st * 48271 + x % 2147483647 + 7919 * (c + 1)) % 2147483647) (n' := c + 1) bv5.z0 (modR (by decide)).1 (modR (by decide)).2 bv5.n0
      exact tail _ _ ⟨_, _, _, _, _, rfl, bv6, f5.trans fr6⟩
    · intro tail2
      refine ⟨_, rfl, _, _, rfl, rfl, ⟨by decide, by decide, by decide⟩, _, _, rfl, rfl, _, rfl, ?_⟩
      refine ite2 (fun _ => ?_) (fun _ => tail2 _ _ ⟨z, rfl, bv4, f4⟩)
      refine ⟨_, rfl, _, rfl, _, _, 0, 0, rfl, rfl, bv4.x, rfl, ?_⟩
      obtain ⟨bv5, fr5⟩ := bv4.put (z' := x) (st' := st) (n' := c + 1) x0 bv.s0 bv.s1 bv4.n0
      exact tail2 _ _ ⟨x, rfl, bv5, f4.trans fr5⟩
end
end LL

set_option maxHeartbeats 3999999
/-! the defs, followed as data -/
namespace LL
open PySem PySem.Spec PyProof.Rows L2 GG DD
structure Nones (mg : Str → Option Value) : Prop where
  ztuple : mg "tuple" = none
  zdict : mg "dict" = none
  zsorted : mg "sorted" = none
  zlist : mg "list" = none
  zrepr : mg "repr" = none
  zlen : mg "len" = none
  zint : mg "int" = none
  zrange : mg "range" = none
  zenumerate : mg "enumerate" = none
  zabs : mg "abs" = none
  zisinstance : mg "isinstance" = none
  zbool : mg "bool" = none
  zall : mg "all" = none
  zzip : mg "zip" = none
  zstr : mg "str" = none
  zsum : mg "sum" = none
  cDIGITS : ∃ t, mg "DIGITS" = some (.str "0123456789" t)
structure Dfn (P : Program) (w : World) (K : PySem.W.Frag) (mg : Str → Option Value) (base : Heap) (k : Nat) (f : Addr) (fd : FuncData) (x : Str) (ps : List Str) (sp : Sp) : Prop where
  gfn : GFn P w K mg base CX0 k f fd ps sp
  mg : mg x = some (.ref f)
  kp : PySem.W.keepIn K (.ref f) = true
  bi : Binds K fd ps []
/-- an error class whose __init__ does nothing -/
def spNil : Sp := fun vs H Q _ => vs.length = 1 ∧ Q V.non H
structure Err (P : Program) (w : World) (K : PySem.W.Frag) (mg : Str → Option Value) (base : Heap) (x : Str) (C f : Addr) (fd : FuncData) : Prop where
  T : OexC K C
  iC : PySem.W.findIn K (.ref C) "__init__" = some (some (.ref f))
  tI : PySem.W.typeIn K (.ref f) = some (.type "function")
  gfn : GFn P w K mg base CX0 1 f fd ["self"] spNil
  bi : Binds K fd ["self"] []
  mg : mg x = some (.ref C)
  oc : ObjC K C
theorem _root_.GG.Rm.u64 {k : Nat} {A : Around} (r : Rm k A) : A.units + 64 < cLine := by have := r.room.un; omega
theorem _root_.GG.Rm.u65 {k : Nat} {A : Around} (r : Rm k A) : A.units + 65 < cLine := by have := r.room.un; omega
theorem _root_.GG.Rm.u1 {k : Nat} {A : Around} (r : Rm k A) : A.units + 1 < cLine := by have := r.room.un; omega
section
variable {P : Program} {w : World} {K : PySem.W.Frag} {mg : Str → Option Value} {base : Heap}

abbrev sled : Stmt := top 2
theorem scled : FnScope ["way", "x"] ["way", "x"] (defScope sled) := ⟨rfl, rfl, rfl, by decide +kernel, rfl, by decide +kernel, by decide +kernel⟩
def mled  : Ws := (seqW (iffW (testW (opW eqSF (opW ixF (varW 0) (conW (.int 0))) (conW (.str "plus")))) (retW (opW (iiF (fun _ _ => True) fun i j => .int (i + j)) (varW 1) (opW ixF (varW 0) (conW (.int 1))))) nxtW) (seqW (iffW (testW (opW eqSF (opW ixF (varW 0) (conW (.int 0))) (conW (.str "turned")))) (retW (negW (varW 1))) nxtW) (seqW (iffW (testW (opW eqSF (opW ixF (varW 0) (conW (.int 0))) (conW (.str "times")))) (retW (opW (iiF CMul fun i j => .int (i * j)) (varW 1) (opW ixF (varW 0) (conW (.int 1))))) nxtW) (seqW (iffW (testW (opW eqSF (opW ixF (varW 0) (conW (.int 0))) (conW (.str "over")))) (retW (opW (iiF CDivN fun i j => .int (i.fdiv j)) (varW 1) (opW ixF (varW 0) (conW (.int 1))))) nxtW) (seqW (iffW (testW (opW eqSF (opW ixF (varW 0) (conW (.int 0))) (conW (.str "rest")))) (retW (opW (iiF (fun _ j => j ≠ 0) fun i j => .int (i.fmod j)) (varW 1) (opW ixF (varW 0) (conW (.int 1))))) nxtW) (retW (ifW (testW (chainW (iiF (fun _ _ => True) fun i j => .bool (decide (i ≤ j))) (iiF (fun _ _ => True) fun i j => .bool (decide (i < j))) (conW (.int 0)) (varW 1) (cbW lenF (consW (opW ixF (varW 0) (conW (.int 1))) nilW)))) (opW ixF (opW ixF (varW 0) (conW (.int 1))) (varW 1)) (conW .none))))))))
theorem okled  {f : Addr} {fd : FuncData} {b : BP} (Z : Nones mg)   (F : L2.Fun K "led" "led" sled f fd) : GFn P w K mg base CX0 1 f fd ["way", "x"] (spD K b 2 (bodyW 2 (mled ))) := by

  refine def_ok F scled ?_
  intro cdv A o s H E rm
  exact ⟨_, (pss_cons (ps_if (pt_cmpR op_eq (pe_ix ix_seq (pv 0) pe_int (fun _ _ => rfl)) pe_str (nomark _)) (pss_one (ps_ret (pe_op op_add (pv 1) (pe_ix ix_seq (pv 0) pe_int (fun _ _ => rfl))))) pss_nil) (pss_cons (ps_if (pt_cmpR op_eq (pe_ix ix_seq (pv 0) pe_int (fun _ _ => rfl)) pe_str (nomark _)) (pss_one (ps_ret (pe_un un_neg (pv 1)))) pss_nil) (pss_cons (ps_if (pt_cmpR op_eq (pe_ix ix_seq (pv 0) pe_int (fun _ _ => rfl)) pe_str (nomark _)) (pss_one (ps_ret (pe_op op_mul (pv 1) (pe_ix ix_seq (pv 0) pe_int (fun _ _ => rfl))))) pss_nil) (pss_cons (ps_if (pt_cmpR op_eq (pe_ix ix_seq (pv 0) pe_int (fun _ _ => rfl)) pe_str (nomark _)) (pss_one (ps_ret (pe_op op_fdivN (pv 1) (pe_ix ix_seq (pv 0) pe_int (fun _ _ => rfl))))) pss_nil) (pss_cons (ps_if (pt_cmpR op_eq (pe_ix ix_seq (pv 0) pe_int (fun _ _ => rfl)) pe_str (nomark _)) (pss_one (ps_ret (pe_op op_modN (pv 1) (pe_ix ix_seq (pv 0) pe_int (fun _ _ => rfl))))) pss_nil) (pss_one (ps_ret (pe_ifExp (pt_chain op_le op_lt pe_int (pv 1) (pe_callB call_len (by rfl) Z.zlen (by rfl) (pa_cons (pe_ix ix_seq (pv 0) pe_int (fun _ _ => rfl)) pa_nil))) (pe_ix ix_seq (pe_ix ix_seq (pv 0) pe_int (fun _ _ => rfl)) (pv 1) (fun _ _ => rfl)) pe_non)))))))), (snd_seq (snd_ifS (snd_test (snd_op rv_eqS (snd_op rv_ix snd_var snd_int) snd_str)) (snd_ret (snd_op (rv_ii0 (f := fun i j => .int (i + j)) fun _ _ _ => Dq.int _) snd_var (snd_op rv_ix snd_var snd_int))) snd_next) (snd_seq (snd_ifS (snd_test (snd_op rv_eqS (snd_op rv_ix snd_var snd_int) snd_str)) (snd_ret (snd_neg snd_var)) snd_next) (snd_seq (snd_ifS (snd_test (snd_op rv_eqS (snd_op rv_ix snd_var snd_int) snd_str)) (snd_ret (snd_op (rv_ii (C := CMul) (f := fun i j => .int (i * j)) fun _ _ _ => Dq.int _) snd_var (snd_op rv_ix snd_var snd_int))) snd_next) (snd_seq (snd_ifS (snd_test (snd_op rv_eqS (snd_op rv_ix snd_var snd_int) snd_str)) (snd_ret (snd_op (rv_ii (C := CDivN) (f := fun i j => .int (i.fdiv j)) fun _ _ _ => Dq.int _) snd_var (snd_op rv_ix snd_var snd_int))) snd_next) (snd_seq (snd_ifS (snd_test (snd_op rv_eqS (snd_op rv_ix snd_var snd_int) snd_str)) (snd_ret (snd_op (rv_ii (C := (fun _ j => j ≠ 0)) (f := fun i j => .int (i.fmod j)) fun _ _ _ => Dq.int _) snd_var (snd_op rv_ix snd_var snd_int))) snd_next) (snd_ret (snd_if (snd_test (snd_chain (rv_ii0 (f := fun i j => .bool (decide (i ≤ j))) fun _ _ _ => Dq.bl _) (rv_ii0 (f := fun i j => .bool (decide (i < j))) fun _ _ _ => Dq.bl _) snd_int snd_var (snd_cb rc_len (snd_cons (snd_op rv_ix snd_var snd_int) snd_nil)))) (snd_op rv_ix (snd_op rv_ix snd_var snd_int) snd_var) snd_non)))))))⟩
abbrev sis_integer : Stmt := top 7
theorem scis_integer : FnScope ["thing"] ["thing"] (defScope sis_integer) := ⟨rfl, rfl, rfl, by decide +kernel, rfl, by decide +kernel, by decide +kernel⟩
def mis_integer  : Ws := (retW (andVW (isinW "int" (varW 0)) (notVW (isinW "bool" (varW 0)))))
theorem okis_integer  {f : Addr} {fd : FuncData} {b : BP} (Z : Nones mg)   (F : L2.Fun K "is_integer" "is_integer" sis_integer f fd) : GFn P w K mg base CX0 1 f fd ["thing"] (spD K b 1 (bodyW 1 (mis_integer ))) := by

  refine def_ok F scis_integer ?_
  intro cdv A o s H E rm
  exact ⟨_, (pss_one (ps_ret (pe_and (pe_callB call_isiG (by rfl) Z.zisinstance (by rfl) (pa_cons (pv 0) (pa_cons (pe_bltn (v := .ty "int") (by rfl) Z.zint (by rfl) rfl) pa_nil))) (pe_one (pe_not (pe_callB call_isiG (by rfl) Z.zisinstance (by rfl) (pa_cons (pv 0) (pa_cons (pe_bltn (v := .ty "bool") (by rfl) Z.zbool (by rfl) rfl) pa_nil)))))))), (snd_ret (snd_andV (snd_isin snd_var) (snd_notV (snd_isin snd_var))))⟩
abbrev sis_value : Stmt := top 8
theorem scis_value : FnScope ["thing"] ["thing"] (defScope sis_value) := ⟨rfl, rfl, rfl, by decide +kernel, rfl, by decide +kernel, by decide +kernel⟩
def mis_value (Fis_integer : Fm) : Ws := (retW (orVW (isNW (varW 0)) (callW 1 Fis_integer (consW (varW 0) nilW))))
theorem okis_value (Fis_integer : Fm) {f : Addr} {fd : FuncData} {b : BP} (Z : Nones mg)  {fis_integer : Addr} {fdis_integer : FuncData} (Dis_integer : Dfn P w K mg base 1 fis_integer fdis_integer "is_integer" ["thing"] (spD K b 1 Fis_integer)) (F : L2.Fun K "is_value" "is_value" sis_value f fd) : GFn P w K mg base CX0 2 f fd ["thing"] (spD K b 1 (bodyW 1 (mis_value Fis_integer))) := by
  have Dis_integerle : 1 ≤ 1 := by decide
  refine def_ok F scis_value ?_
  intro cdv A o s H E rm
  exact ⟨_, (pss_one (ps_ret (pe_or (pe_cmp (pc_isN (pv 0))) (pe_one (pe_g (Dis_integer.gfn.mono Dis_integerle) rm (by rfl) Dis_integer.mg Dis_integer.kp Dis_integer.bi .nil pass0 (pa_cons (pv 0) pa_nil)))))), (snd_ret (snd_orV (snd_isN snd_var) (snd_call (snd_cons snd_var snd_nil))))⟩
abbrev sis_tuple_of : Stmt := top 9
theorem scis_tuple_of : FnScope ["thing", "many"] ["thing", "many"] (defScope sis_tuple_of) := ⟨rfl, rfl, rfl, by decide +kernel, rfl, by decide +kernel, by decide +kernel⟩
def mis_tuple_of  : Ws := (retW (andVW (isinW "tuple" (varW 0)) (opW eqF (cbW lenF (consW (varW 0) nilW)) (varW 1))))
theorem okis_tuple_of  {f : Addr} {fd : FuncData} {b : BP} (Z : Nones mg)   (F : L2.Fun K "is_tuple_of" "is_tuple_of" sis_tuple_of f fd) : GFn P w K mg base CX0 1 f fd ["thing", "many"] (spD K b 2 (bodyW 2 (mis_tuple_of ))) := by

  refine def_ok F scis_tuple_of ?_
  intro cdv A o s H E rm
  exact ⟨_, (pss_one (ps_ret (pe_and (pe_callB call_isiG (by rfl) Z.zisinstance (by rfl) (pa_cons (pv 0) (pa_cons (pe_bltn (v := .ty "tuple") (by rfl) Z.ztuple (by rfl) rfl) pa_nil))) (pe_one (pe_cmpR (op_eqD rm.u64) (pe_callB call_len (by rfl) Z.zlen (by rfl) (pa_cons (pv 0) pa_nil)) (pv 1) (nomark _)))))), (snd_ret (snd_andV (snd_isin snd_var) (snd_op rv_eqD (snd_cb rc_len (snd_cons snd_var snd_nil)) snd_var)))⟩
abbrev s_sorts_in : Stmt := top 10
theorem sc_sorts_in : FnScope ["schema", "table"] ["schema", "table"] (defScope s_sorts_in) := ⟨rfl, rfl, rfl, by decide +kernel, rfl, by decide +kernel, by decide +kernel⟩
def m_sorts_in  : Ws := (retW (cbW dictTF (consW (opW ixF (dgetW (opW ixF (varW 0) (conW (.int 0))) (varW 1)) (conW (.int 0))) nilW)))
theorem ok_sorts_in  {f : Addr} {fd : FuncData} {b : BP} (Z : Nones mg)   (F : L2.Fun K "_sorts_in" "_sorts_in" s_sorts_in f fd) : GFn P w K mg base CX0 1 f fd ["schema", "table"] (spD K b 2 (bodyW 2 (m_sorts_in ))) := by

  refine def_ok F sc_sorts_in ?_
  intro cdv A o s H E rm
  exact ⟨_, (pss_one (ps_ret (pe_callTy (call_dictT rfl) (by rfl) Z.zdict (by rfl) (pa_cons (pe_ix ix_seq (pe_dget rm.u1 (pe_callTy (call_dictT rfl) (by rfl) Z.zdict (by rfl) (pa_cons (pe_ix ix_seq (pv 0) pe_int (fun _ _ => rfl)) pa_nil)) (pv 1) (by first | exact noSl_name | exact fun _ _ => rfl | rfl)) pe_int (fun _ _ => rfl)) pa_nil)))), (snd_ret (snd_cb rc_dictT (snd_cons (snd_op rv_ix (snd_dget (snd_op rv_ix snd_var snd_int) snd_var) snd_int) snd_nil)))⟩
abbrev sis_row : Stmt := top 11
theorem scis_row : FnScope ["schema", "table", "thing", "x"] ["schema", "table", "thing"] (defScope sis_row) := ⟨rfl, rfl, rfl, by decide +kernel, rfl, by decide +kernel, by decide +kernel⟩
def mis_row (Fis_value : Fm) (Fis_tuple_of : Fm) (F_sorts_in : Fm) : Ws := (retW (andVW (callW 2 Fis_tuple_of (consW (varW 2) (consW (cbW lenDF (consW (callW 2 F_sorts_in (consW (varW 0) (consW (varW 1) nilW))) nilW)) nilW))) (cbW allF (consW (lW (lcompW [3] (itTW (varW 2)) (gnW 3) yesW (callW 1 Fis_value (consW (varW 3) nilW)))) nilW))))
theorem okis_row (Fis_value : Fm) (Fis_tuple_of : Fm) (F_sorts_in : Fm) {f : Addr} {fd : FuncData} {b : BP} (Z : Nones mg)  {fis_value : Addr} {fdis_value : FuncData} (Dis_value : Dfn P w K mg base 2 fis_value fdis_value "is_value" ["thing"] (spD K b 1 Fis_value)) {fis_tuple_of : Addr} {fdis_tuple_of : FuncData} (Dis_tuple_of : Dfn P w K mg base 1 fis_tuple_of fdis_tuple_of "is_tuple_of" ["thing", "many"] (spD K b 2 Fis_tuple_of)) {f_sorts_in : Addr} {fd_sorts_in : FuncData} (D_sorts_in : Dfn P w K mg base 1 f_sorts_in fd_sorts_in "_sorts_in" ["schema", "table"] (spD K b 2 F_sorts_in)) (F : L2.Fun K "is_row" "is_row" sis_row f fd) : GFn P w K mg base CX0 3 f fd ["schema", "table", "thing"] (spD K b 3 (bodyW 4 (mis_row Fis_value Fis_tuple_of F_sorts_in))) := by
  have Dis_valuele : 2 ≤ 2 := by decide
  have Dis_tuple_ofle : 1 ≤ 2 := by decide
  have D_sorts_inle : 1 ≤ 2 := by decide
  refine def_ok F scis_row ?_
  intro cdv A o s H E rm
  exact ⟨_, (pss_one (ps_ret (pe_and (pe_g (Dis_tuple_of.gfn.mono Dis_tuple_ofle) rm (by rfl) Dis_tuple_of.mg Dis_tuple_of.kp Dis_tuple_of.bi .nil pass0 (pa_cons (pv 2) (pa_cons (pe_callB call_lenRd (by rfl) Z.zlen (by rfl) (pa_cons (pe_g (D_sorts_in.gfn.mono D_sorts_inle) rm (by rfl) D_sorts_in.mg D_sorts_in.kp D_sorts_in.bi .nil pass0 (pa_cons (pv 0) (pa_cons (pv 1) pa_nil))) pa_nil)) pa_nil))) (pe_one (pe_callB (cr_all rfl) (by rfl) Z.zall (by rfl) (pa_cons (pe_lc (own := [("x", 3)]) rfl scis_row.nd (pi_tup (pv 2)) (blkOk_by (by show blkC ["schema", "table", "thing", "x"] (defScope sis_row) _ _ = true; decide +kernel)) (fun _ _ _ _ _ => (pg_name (i := 3) scis_row.nd rfl (by first | exact Or.inl rfl | exact Or.inr rfl))) (fun _ _ _ _ _ => pts_nil) (fun _ _ _ _ _ => (pe_g (Dis_value.gfn.mono Dis_valuele) rm (by rfl) Dis_value.mg Dis_value.kp Dis_value.bi .nil pass0 (pa_cons (pv 3) pa_nil)))) pa_nil)))))), (snd_ret (snd_andV (snd_call (snd_cons snd_var (snd_cons (snd_cb rc_lenD (snd_cons (snd_call (snd_cons snd_var (snd_cons snd_var snd_nil))) snd_nil)) snd_nil))) (snd_cb rc_all (snd_cons (snd_l (snd_lc (si_tup snd_var) sg_name gin_name snd_yes (snd_call (snd_cons snd_var snd_nil)))) snd_nil))))⟩
abbrev sfits_sort : Stmt := top 12
theorem scfits_sort : FnScope ["sort", "thing"] ["sort", "thing"] (defScope sfits_sort) := ⟨rfl, rfl, rfl, by decide +kernel, rfl, by decide +kernel, by decide +kernel⟩
def mfits_sort (Fis_integer : Fm) : Ws := (seqW (iffW (andW (testW (opW eqSF (opW ixF (varW 0) (conW (.int 0))) (conW (.str "may")))) (testW (isNW (varW 1)))) (retW (conW (.bool true))) nxtW) (retW (andVW (callW 1 Fis_integer (consW (varW 1) nilW)) (orVW (opW neSF (opW ixF (varW 0) (conW (.int 0))) (conW (.str "below"))) (chainW (iiF (fun _ _ => True) fun i j => .bool (decide (i ≤ j))) (iiF (fun _ _ => True) fun i j => .bool (decide (i < j))) (conW (.int 0)) (varW 1) (opW ixF (varW 0) (conW (.int 1))))))))
theorem okfits_sort (Fis_integer : Fm) {f : Addr} {fd : FuncData} {b : BP} (Z : Nones mg)  {fis_integer : Addr} {fdis_integer : FuncData} (Dis_integer : Dfn P w K mg base 1 fis_integer fdis_integer "is_integer" ["thing"] (spD K b 1 Fis_integer)) (F : L2.Fun K "fits_sort" "fits_sort" sfits_sort f fd) : GFn P w K mg base CX0 2 f fd ["sort", "thing"] (spD K b 2 (bodyW 2 (mfits_sort Fis_integer))) := by
  have Dis_integerle : 1 ≤ 1 := by decide
  refine def_ok F scfits_sort ?_
  intro cdv A o s H E rm
  exact ⟨_, (pss_cons (ps_if (pw_and (pt_cmpR op_eq (pe_ix ix_seq (pv 0) pe_int (fun _ _ => rfl)) pe_str (nomark _)) (pw_and1 (pt_cmp (pc_isN (pv 1))))).pt (pss_one (ps_ret pe_bl)) pss_nil) (pss_one (ps_ret (pe_and (pe_g (Dis_integer.gfn.mono Dis_integerle) rm (by rfl) Dis_integer.mg Dis_integer.kp Dis_integer.bi .nil pass0 (pa_cons (pv 1) pa_nil)) (pe_one (pe_or (pe_cmpR op_ne (pe_ix ix_seq (pv 0) pe_int (fun _ _ => rfl)) pe_str (nomark _)) (pe_one (pe_chain op_le op_lt pe_int (pv 1) (pe_ix ix_seq (pv 0) pe_int (fun _ _ => rfl)))))))))), (snd_seq (snd_ifS (snd_and (snd_test (snd_op rv_eqS (snd_op rv_ix snd_var snd_int) snd_str)) (snd_tB (snd_isN snd_var))) (snd_ret snd_bl) snd_next) (snd_ret (snd_andV (snd_call (snd_cons snd_var snd_nil)) (snd_orV (snd_op rv_neS (snd_op rv_ix snd_var snd_int) snd_str) (snd_chain (rv_ii0 (f := fun i j => .bool (decide (i ≤ j))) fun _ _ _ => Dq.bl _) (rv_ii0 (f := fun i j => .bool (decide (i < j))) fun _ _ _ => Dq.bl _) snd_int snd_var (snd_op rv_ix snd_var snd_int))))))⟩
abbrev sfits_row : Stmt := top 13
theorem scfits_row : FnScope ["schema", "table", "row", "sorts", "sort", "x"] ["schema", "table", "row"] (defScope sfits_row) := ⟨rfl, rfl, rfl, by decide +kernel, rfl, by decide +kernel, by decide +kernel⟩
def mfits_row (Fis_row : Fm) (F_sorts_in : Fm) (Ffits_sort : Fm) : Ws := (seqW (iffW (notW (testW (callW 3 Fis_row (consW (varW 0) (consW (varW 1) (consW (varW 2) nilW)))))) (retW (conW (.bool false))) nxtW) (seqW (setFW 3 (valsF (callW 2 F_sorts_in (consW (varW 0) (consW (varW 1) nilW))))) (relW 3 (retW (cbW allF (consW (lW (lcompW [4, 5] (itZLW (varW 3) (varW 2)) (gtupW 2 (gconsW (gnW 4) (gconsW (gnW 5) gnilW))) yesW (callW 2 Ffits_sort (consW (varW 4) (consW (varW 5) nilW))))) nilW))))))
theorem okfits_row (Fis_row : Fm) (F_sorts_in : Fm) (Ffits_sort : Fm) {f : Addr} {fd : FuncData} {b : BP} (Z : Nones mg)  {fis_row : Addr} {fdis_row : FuncData} (Dis_row : Dfn P w K mg base 3 fis_row fdis_row "is_row" ["schema", "table", "thing"] (spD K b 3 Fis_row)) {f_sorts_in : Addr} {fd_sorts_in : FuncData} (D_sorts_in : Dfn P w K mg base 1 f_sorts_in fd_sorts_in "_sorts_in" ["schema", "table"] (spD K b 2 F_sorts_in)) {ffits_sort : Addr} {fdfits_sort : FuncData} (Dfits_sort : Dfn P w K mg base 2 ffits_sort fdfits_sort "fits_sort" ["sort", "thing"] (spD K b 2 Ffits_sort)) (F : L2.Fun K "fits_row" "fits_row" sfits_row f fd) : GFn P w K mg base CX0 4 f fd ["schema", "table", "row"] (spD K b 3 (bodyW 6 (mfits_row Fis_row F_sorts_in Ffits_sort))) := by
  have Dis_rowle : 3 ≤ 3 := by decide
  have D_sorts_inle : 1 ≤ 3 := by decide
  have Dfits_sortle : 2 ≤ 3 := by decide
  refine def_ok F scfits_row ?_
  intro cdv A o s H E rm
  exact ⟨_, (pss_cons (ps_if (pt_not (pt_val (pe_g (Dis_row.gfn.mono Dis_rowle) rm (by rfl) Dis_row.mg Dis_row.kp Dis_row.bi .nil pass0 (pa_cons (pv 0) (pa_cons (pv 1) (pa_cons (pv 2) pa_nil)))))) (pss_one (ps_ret pe_bl)) pss_nil) (pss_cons (ps_set (i := 3) scfits_row.nd rfl (by first | exact Or.inl rfl | exact Or.inr rfl) (pe_listVals rfl (by rfl) Z.zlist (pe_g (D_sorts_in.gfn.mono D_sorts_inle) rm (by rfl) D_sorts_in.mg D_sorts_in.kp D_sorts_in.bi .nil pass0 (pa_cons (pv 0) (pa_cons (pv 1) pa_nil))))) (pss_one (ps_ret (pe_callB (cr_all rfl) (by rfl) Z.zall (by rfl) (pa_cons (pe_lc (own := [("sort", 4), ("x", 5)]) rfl scfits_row.nd (pi_zipLT (by rfl) Z.zzip (pa_cons (pv 3) (pa_cons (pv 2) pa_nil))) (blkOk_by (by show blkC ["schema", "table", "row", "sorts", "sort", "x"] (defScope sfits_row) _ _ = true; decide +kernel)) (fun _ _ _ _ _ => (pg_tup rfl (pgs_cons (pg_name (i := 4) scfits_row.nd rfl (by first | exact Or.inl rfl | exact Or.inr rfl)) (pgs_cons (pg_name (i := 5) scfits_row.nd rfl (by first | exact Or.inl rfl | exact Or.inr rfl)) pgs_nil)))) (fun _ _ _ _ _ => pts_nil) (fun _ _ _ _ _ => (pe_g (Dfits_sort.gfn.mono Dfits_sortle) rm (by rfl) Dfits_sort.mg Dfits_sort.kp Dfits_sort.bi .nil pass0 (pa_cons (pv 4) (pa_cons (pv 5) pa_nil))))) pa_nil)))))), (snd_seq (snd_ifS (snd_not (snd_tB (snd_call (snd_cons snd_var (snd_cons snd_var (snd_cons snd_var snd_nil)))))) (snd_ret snd_bl) snd_next) (snd_seq (snd_setF (snd_vals (snd_call (snd_cons snd_var (snd_cons snd_var snd_nil))))) (snd_rel 3 (snd_ret (snd_cb rc_all (snd_cons (snd_l (snd_lc (si_zipL snd_var snd_var) (sg_tup (sg_cons sg_name (sg_cons sg_name sg_nil))) (gin_tup (gin_cons gin_name (gin_cons gin_name gin_nil))) snd_yes (snd_call (snd_cons snd_var (snd_cons snd_var snd_nil))))) snd_nil))))))⟩
abbrev sinteger_in : Stmt := top 15
theorem scinteger_in : FnScope ["word", "digits", "sign"] ["word"] (defScope sinteger_in) := ⟨rfl, rfl, rfl, by decide +kernel, rfl, by decide +kernel, by decide +kernel⟩
def minteger_in  : Ws := (seqW (setW 1 (rmpW (varW 0) (consW (conW (.str "-")) nilW))) (seqW (iffW (orW (notW (testW (chainW (iiF (fun _ _ => True) fun i j => .bool (decide (i ≤ j))) (iiF (fun _ _ => True) fun i j => .bool (decide (i ≤ j))) (conW (.int 1)) (cbW lenF (consW (varW 1) nilW)) (conW (.int 200))))) (notW (testW (cbW allF (consW (lW (lcompW [2] (itSW (varW 1)) (gnW 2) yesW (opW (inSF false) (varW 2) (conW (.str "0123456789"))))) nilW))))) (retW (conW .none)) nxtW) (seqW (iffW (andW (testW (opW eqSF (opW ixF (varW 1) (conW (.int 0))) (conW (.str "0")))) (testW (opW neSF (varW 0) (conW (.str "0"))))) (retW (conW .none)) nxtW) (retW (cbW intSF (consW (varW 0) nilW))))))
theorem okinteger_in  {f : Addr} {fd : FuncData} {b : BP} (Z : Nones mg)   (F : L2.Fun K "integer_in" "integer_in" sinteger_in f fd) : GFn P w K mg base CX0 1 f fd ["word"] (spD K b 1 (bodyW 3 (minteger_in ))) := by

  refine def_ok F scinteger_in ?_
  intro cdv A o s H E rm
  exact ⟨_, (pss_cons (ps_set (i := 1) scinteger_in.nd rfl (by first | exact Or.inl rfl | exact Or.inr rfl) (pe_bm PySem.F.plainAttrs_str PySem.F.slot_str_removeprefix PySem.F.type_str_removeprefix mt_removeprefix (pv 0) (pa_cons pe_str pa_nil))) (pss_cons (ps_if (pw_or (pt_not (pt_chain op_le op_le pe_int (pe_callB call_len (by rfl) Z.zlen (by rfl) (pa_cons (pv 1) pa_nil)) pe_int)) (pw_or1 (pt_not (pt_val (pe_callB (cr_all rfl) (by rfl) Z.zall (by rfl) (pa_cons (pe_lc (own := [("sign", 2)]) rfl scinteger_in.nd (pi_str (pv 1)) (blkOk_by (by show blkC ["word", "digits", "sign"] (defScope sinteger_in) _ _ = true; decide +kernel)) (fun _ _ _ _ _ => (pg_name (i := 2) scinteger_in.nd rfl (by first | exact Or.inl rfl | exact Or.inr rfl))) (fun _ _ _ _ _ => pts_nil) (fun _ _ _ _ _ => (pe_cmpR op_in_str (pv 2) (pe_glob (v := .str "0123456789") (by rfl) Z.cDIGITS.choose_spec ⟨_, rfl⟩) (by rfl)))) pa_nil)))))).pt (pss_one (ps_ret pe_non)) pss_nil) (pss_cons (ps_if (pw_and (pt_cmpR op_eq (pe_ix ix_seq (pv 1) pe_int (fun _ _ => rfl)) pe_str (nomark _)) (pw_and1 (pt_cmpR op_ne (pv 0) pe_str (nomark _)))).pt (pss_one (ps_ret pe_non)) pss_nil) (pss_one (ps_ret (pe_callTy call_int_str (by rfl) Z.zint (by rfl) (pa_cons (pv 0) pa_nil))))))), (snd_seq (snd_set (snd_rmp snd_var (snd_cons snd_str snd_nil))) (snd_seq (snd_ifS (snd_or (snd_not (snd_test (snd_chain (rv_ii0 (f := fun i j => .bool (decide (i ≤ j))) fun _ _ _ => Dq.bl _) (rv_ii0 (f := fun i j => .bool (decide (i ≤ j))) fun _ _ _ => Dq.bl _) snd_int (snd_cb rc_len (snd_cons snd_var snd_nil)) snd_int))) (snd_not (snd_tB (snd_cb rc_all (snd_cons (snd_l (snd_lc (si_str snd_var) sg_name gin_name snd_yes (snd_op rv_inS snd_var snd_str))) snd_nil))))) (snd_ret snd_non) snd_next) (snd_seq (snd_ifS (snd_and (snd_test (snd_op rv_eqS (snd_op rv_ix snd_var snd_int) snd_str)) (snd_test (snd_op rv_neS snd_var snd_str))) (snd_ret snd_non) snd_next) (snd_ret (snd_cb rc_intS (snd_cons snd_var snd_nil))))))⟩
abbrev s_law_table_of : Stmt := top 17
theorem sc_law_table_of : FnScope ["schema", "name"] ["schema", "name"] (defScope s_law_table_of) := ⟨rfl, rfl, rfl, by decide +kernel, rfl, by decide +kernel, by decide +kernel⟩
def m_law_table_of  : Ws := (retW (dgetW (opW ixF (varW 0) (conW (.int 0))) (varW 1)))
theorem ok_law_table_of  {f : Addr} {fd : FuncData} {b : BP} (Z : Nones mg)   (F : L2.Fun K "_law_table_of" "_law_table_of" s_law_table_of f fd) : GFn P w K mg base CX0 1 f fd ["schema", "name"] (spD K b 2 (bodyW 2 (m_law_table_of ))) := by

  refine def_ok F sc_law_table_of ?_
  intro cdv A o s H E rm
  exact ⟨_, (pss_one (ps_ret (pe_dget rm.u1 (pe_callTy (call_dictT rfl) (by rfl) Z.zdict (by rfl) (pa_cons (pe_ix ix_seq (pv 0) pe_int (fun _ _ => rfl)) pa_nil)) (pv 1) (by first | exact noSl_name | exact fun _ _ => rfl | rfl)))), (snd_ret (snd_dget (snd_op rv_ix snd_var snd_int) snd_var))⟩
abbrev s_law_is_int : Stmt := top 18
theorem sc_law_is_int : FnScope ["thing"] ["thing"] (defScope s_law_is_int) := ⟨rfl, rfl, rfl, by decide +kernel, rfl, by decide +kernel, by decide +kernel⟩
def m_law_is_int  : Ws := (retW (andVW (isinW "int" (varW 0)) (notVW (isinW "bool" (varW 0)))))
theorem ok_law_is_int  {f : Addr} {fd : FuncData} {b : BP} (Z : Nones mg)   (F : L2.Fun K "_law_is_int" "_law_is_int" s_law_is_int f fd) : GFn P w K mg base CX0 1 f fd ["thing"] (spD K b 1 (bodyW 1 (m_law_is_int ))) := by

  refine def_ok F sc_law_is_int ?_
  intro cdv A o s H E rm
  exact ⟨_, (pss_one (ps_ret (pe_and (pe_callB call_isiG (by rfl) Z.zisinstance (by rfl) (pa_cons (pv 0) (pa_cons (pe_bltn (v := .ty "int") (by rfl) Z.zint (by rfl) rfl) pa_nil))) (pe_one (pe_not (pe_callB call_isiG (by rfl) Z.zisinstance (by rfl) (pa_cons (pv 0) (pa_cons (pe_bltn (v := .ty "bool") (by rfl) Z.zbool (by rfl) rfl) pa_nil)))))))), (snd_ret (snd_andV (snd_isin snd_var) (snd_notV (snd_isin snd_var))))⟩
abbrev s_law_sort_fits : Stmt := top 19
theorem sc_law_sort_fits : FnScope ["sort", "thing"] ["sort", "thing"] (defScope s_law_sort_fits) := ⟨rfl, rfl, rfl, by decide +kernel, rfl, by decide +kernel, by decide +kernel⟩
def m_law_sort_fits  : Ws := (seqW (iffW (testW (isNW (varW 1))) (retW (opW eqSF (opW ixF (varW 0) (conW (.int 0))) (conW (.str "may")))) nxtW) (retW (orVW (opW neSF (opW ixF (varW 0) (conW (.int 0))) (conW (.str "below"))) (chainW (iiF (fun _ _ => True) fun i j => .bool (decide (i ≤ j))) (iiF (fun _ _ => True) fun i j => .bool (decide (i < j))) (conW (.int 0)) (varW 1) (opW ixF (varW 0) (conW (.int 1)))))))
theorem ok_law_sort_fits  {f : Addr} {fd : FuncData} {b : BP} (Z : Nones mg)   (F : L2.Fun K "_law_sort_fits" "_law_sort_fits" s_law_sort_fits f fd) : GFn P w K mg base CX0 1 f fd ["sort", "thing"] (spD K b 2 (bodyW 2 (m_law_sort_fits ))) := by

  refine def_ok F sc_law_sort_fits ?_
  intro cdv A o s H E rm
  exact ⟨_, (pss_cons (ps_if (pt_cmp (pc_isN (pv 1))) (pss_one (ps_ret (pe_cmpR op_eq (pe_ix ix_seq (pv 0) pe_int (fun _ _ => rfl)) pe_str (nomark _)))) pss_nil) (pss_one (ps_ret (pe_or (pe_cmpR op_ne (pe_ix ix_seq (pv 0) pe_int (fun _ _ => rfl)) pe_str (nomark _)) (pe_one (pe_chain op_le op_lt pe_int (pv 1) (pe_ix ix_seq (pv 0) pe_int (fun _ _ => rfl)))))))), (snd_seq (snd_ifS (snd_tB (snd_isN snd_var)) (snd_ret (snd_op rv_eqS (snd_op rv_ix snd_var snd_int) snd_str)) snd_next) (snd_ret (snd_orV (snd_op rv_neS (snd_op rv_ix snd_var snd_int) snd_str) (snd_chain (rv_ii0 (f := fun i j => .bool (decide (i ≤ j))) fun _ _ _ => Dq.bl _) (rv_ii0 (f := fun i j => .bool (decide (i < j))) fun _ _ _ => Dq.bl _) snd_int snd_var (snd_op rv_ix snd_var snd_int)))))⟩
abbrev s_law_row_fits : Stmt := top 20
theorem sc_law_row_fits : FnScope ["schema", "table", "row", "sorts", "column", "sort", "thing"] ["schema", "table", "row"] (defScope s_law_row_fits) := ⟨rfl, rfl, rfl, by decide +kernel, rfl, by decide +kernel, by decide +kernel⟩
def m_law_row_fits (F_law_table_of : Fm) (F_law_sort_fits : Fm) : Ws := (seqW (setFW 3 (lcompW [4, 5] (itTW (opW ixF (callW 2 F_law_table_of (consW (varW 0) (consW (varW 1) nilW))) (conW (.int 0)))) (gtupW 2 (gconsW (gnW 4) (gconsW (gnW 5) gnilW))) yesW (varW 5))) (relW 3 (retW (andVW (opW eqF (cbW lenF (consW (varW 2) nilW)) (cbW lenF (consW (varW 3) nilW))) (opW eqF (lW (lcompW [5, 6] (itZLW (varW 3) (varW 2)) (gtupW 2 (gconsW (gnW 5) (gconsW (gnW 6) gnilW))) (notW (testW (callW 2 F_law_sort_fits (consW (varW 5) (consW (varW 6) nilW))))) (conW (.int 1)))) (lW (lstW nilW)))))))
theorem ok_law_row_fits (F_law_table_of : Fm) (F_law_sort_fits : Fm) {f : Addr} {fd : FuncData} {b : BP} (Z : Nones mg)  {f_law_table_of : Addr} {fd_law_table_of : FuncData} (D_law_table_of : Dfn P w K mg base 1 f_law_table_of fd_law_table_of "_law_table_of" ["schema", "name"] (spD K b 2 F_law_table_of)) {f_law_sort_fits : Addr} {fd_law_sort_fits : FuncData} (D_law_sort_fits : Dfn P w K mg base 1 f_law_sort_fits fd_law_sort_fits "_law_sort_fits" ["sort", "thing"] (spD K b 2 F_law_sort_fits)) (F : L2.Fun K "_law_row_fits" "_law_row_fits" s_law_row_fits f fd) : GFn P w K mg base CX0 2 f fd ["schema", "table", "row"] (spD K b 3 (bodyW 7 (m_law_row_fits F_law_table_of F_law_sort_fits))) := by
  have D_law_table_ofle : 1 ≤ 1 := by decide
  have D_law_sort_fitsle : 1 ≤ 1 := by decide
  refine def_ok F sc_law_row_fits ?_
  intro cdv A o s H E rm
  exact ⟨_, (pss_cons (ps_setLc (i := 3) (own := [("column", 4), ("sort", 5)]) rfl sc_law_row_fits.nd rfl rfl rfl (pi_tup (pe_ix ix_seq (pe_g (D_law_table_of.gfn.mono D_law_table_ofle) rm (by rfl) D_law_table_of.mg D_law_table_of.kp D_law_table_of.bi .nil pass0 (pa_cons (pv 0) (pa_cons (pv 1) pa_nil))) pe_int (fun _ _ => rfl))) (blkOk_by (by show blkC ["schema", "table", "row", "sorts", "column", "sort", "thing"] (defScope s_law_row_fits) _ _ = true; decide +kernel)) (fun _ _ _ _ _ => (pg_tup rfl (pgs_cons (pg_name (i := 4) sc_law_row_fits.nd rfl (by first | exact Or.inl rfl | exact Or.inr rfl)) (pgs_cons (pg_name (i := 5) sc_law_row_fits.nd rfl (by first | exact Or.inl rfl | exact Or.inr rfl)) pgs_nil)))) (fun _ _ _ _ _ => pts_nil) (fun _ _ _ _ _ => (pv 5))) (pss_one (ps_ret (pe_and (pe_cmpR (op_eqD rm.u64) (pe_callB call_len (by rfl) Z.zlen (by rfl) (pa_cons (pv 2) pa_nil)) (pe_callB call_len (by rfl) Z.zlen (by rfl) (pa_cons (pv 3) pa_nil)) (nomark _)) (pe_one (pe_cmpR (op_eqD rm.u64) (pe_lc (own := [("sort", 5), ("thing", 6)]) rfl sc_law_row_fits.nd (pi_zipLT (by rfl) Z.zzip (pa_cons (pv 3) (pa_cons (pv 2) pa_nil))) (blkOk_by (by show blkC ["schema", "table", "row", "sorts", "column", "sort", "thing"] (defScope s_law_row_fits) _ _ = true; decide +kernel)) (fun _ _ _ _ _ => (pg_tup rfl (pgs_cons (pg_name (i := 5) sc_law_row_fits.nd rfl (by first | exact Or.inl rfl | exact Or.inr rfl)) (pgs_cons (pg_name (i := 6) sc_law_row_fits.nd rfl (by first | exact Or.inl rfl | exact Or.inr rfl)) pgs_nil)))) (fun _ _ _ _ _ => (pts_one (pt_not (pt_val (pe_g (D_law_sort_fits.gfn.mono D_law_sort_fitsle) rm (by rfl) D_law_sort_fits.mg D_law_sort_fits.kp D_law_sort_fits.bi .nil pass0 (pa_cons (pv 5) (pa_cons (pv 6) pa_nil))))))) (fun _ _ _ _ _ => pe_int)) (pe_lst pa_nil) (nomark _))))))), (snd_seq (snd_setF (snd_lc (si_tup (snd_op rv_ix (snd_call (snd_cons snd_var (snd_cons snd_var snd_nil))) snd_int)) (sg_tup (sg_cons sg_name (sg_cons sg_name sg_nil))) (gin_tup (gin_cons gin_name (gin_cons gin_name gin_nil))) snd_yes snd_var)) (snd_rel 3 (snd_ret (snd_andV (snd_op rv_eqD (snd_cb rc_len (snd_cons snd_var snd_nil)) (snd_cb rc_len (snd_cons snd_var snd_nil))) (snd_op rv_eqD (snd_l (snd_lc (si_zipL snd_var snd_var) (sg_tup (sg_cons sg_name (sg_cons sg_name sg_nil))) (gin_tup (gin_cons gin_name (gin_cons gin_name gin_nil))) (snd_not (snd_tB (snd_call (snd_cons snd_var (snd_cons snd_var snd_nil))))) snd_int)) (snd_l (snd_lst snd_nil)))))))⟩
abbrev s_law_some : Stmt := top 23
theorem sc_law_some : FnScope ["bag", "things"] ["bag", "things"] (defScope s_law_some) := ⟨rfl, rfl, rfl, by decide +kernel, rfl, by decide +kernel, by decide +kernel⟩
def m_law_some (F_law_take : Fm) : Ws := (retW (opW ixF (varW 1) (callW 2 F_law_take (consW (varW 0) (consW (cbW lenF (consW (varW 1) nilW)) nilW)))))
theorem ok_law_some (F_law_take : Fm) {f : Addr} {fd : FuncData} {b : BP} (Z : Nones mg)  {f_law_take : Addr} {fd_law_take : FuncData} (D_law_take : Dfn P w K mg base 1 f_law_take fd_law_take "_law_take" ["bag", "many"] (spD K b 2 F_law_take)) (F : L2.Fun K "_law_some" "_law_some" s_law_some f fd) : GFn P w K mg base CX0 2 f fd ["bag", "things"] (spD K b 2 (bodyW 2 (m_law_some F_law_take))) := by
  have D_law_takele : 1 ≤ 1 := by decide
  refine def_ok F sc_law_some ?_
  intro cdv A o s H E rm
  exact ⟨_, (pss_one (ps_ret (pe_ix ix_seq (pv 1) (pe_g (D_law_take.gfn.mono D_law_takele) rm (by rfl) D_law_take.mg D_law_take.kp D_law_take.bi .nil pass0 (pa_cons (pv 0) (pa_cons (pe_callB call_len (by rfl) Z.zlen (by rfl) (pa_cons (pv 1) pa_nil)) pa_nil))) (fun _ _ => rfl)))), (snd_ret (snd_op rv_ix snd_var (snd_call (snd_cons snd_var (snd_cons (snd_cb rc_len (snd_cons snd_var snd_nil)) snd_nil)))))⟩
abbrev s_law_mixed : Stmt := top 24
theorem sc_law_mixed : FnScope ["bag", "things", "found", "thing"] ["bag", "things"] (defScope s_law_mixed) := ⟨rfl, rfl, rfl, by decide +kernel, rfl, by decide +kernel, by decide +kernel⟩
def m_law_mixed (F_law_take : Fm) : Ws := (seqW (setFW 2 (lstW nilW)) (seqW (forW (itLW (varW 1)) (gnW 3) (insW 2 (callW 2 F_law_take (consW (varW 0) (consW (opW (iiF (fun _ _ => True) fun i j => .int (i + j)) (cbW lenF (consW (varW 2) nilW)) (conW (.int 1))) nilW))) (varW 3))) (retOW 2)))
theorem ok_law_mixed (F_law_take : Fm) {f : Addr} {fd : FuncData} {b : BP} (Z : Nones mg)  {f_law_take : Addr} {fd_law_take : FuncData} (D_law_take : Dfn P w K mg base 1 f_law_take fd_law_take "_law_take" ["bag", "many"] (spD K b 2 F_law_take)) (F : L2.Fun K "_law_mixed" "_law_mixed" s_law_mixed f fd) : GFn P w K mg base CX0 2 f fd ["bag", "things"] (spF K b 2 (bodyF 4 (m_law_mixed F_law_take))) := by
  have D_law_takele : 1 ≤ 1 := by decide
  refine def_okF F sc_law_mixed ?_
  intro cdv A o s H E rm
  exact ⟨_, (pss_cons (ps_set (i := 2) sc_law_mixed.nd rfl (by first | exact Or.inl rfl | exact Or.inr rfl) (pe_lst pa_nil)) (pss_cons (ps_for PassesOwn.leaving rfl (pi_list (pv 1)) (pg_name (i := 3) sc_law_mixed.nd rfl (by first | exact Or.inl rfl | exact Or.inr rfl)) (pss_one (ps_expr (pe_bm PySem.F.plainAttrs_list PySem.F.slot_list_insert PySem.F.type_list_insert (mt_insert) (pv 2) (pa_cons (pe_g (D_law_take.gfn.mono D_law_takele) rm (by rfl) D_law_take.mg D_law_take.kp D_law_take.bi .nil pass0 (pa_cons (pv 0) (pa_cons (pe_op op_add (pe_callB call_len (by rfl) Z.zlen (by rfl) (pa_cons (pv 2) pa_nil)) pe_int) pa_nil))) (pa_cons (pv 3) pa_nil)))))) (pss_one (ps_ret (pv 2))))), (snd_seq (snd_setF (snd_lst snd_nil)) (snd_seq (snd_for (si_list snd_var) sg_name (snd_ins (snd_call (snd_cons snd_var (snd_cons (snd_op (rv_ii0 (f := fun i j => .int (i + j)) fun _ _ _ => Dq.int _) (snd_cb rc_len (snd_cons snd_var snd_nil)) snd_int) snd_nil))) snd_var)) snd_retO))⟩
abbrev s_law_alike : Stmt := top 25
theorem sc_law_alike : FnScope ["found", "due"] ["found", "due"] (defScope s_law_alike) := ⟨rfl, rfl, rfl, by decide +kernel, rfl, by decide +kernel, by decide +kernel⟩
def m_law_alike  : Ws := (retW (andVW (opW eqF (varW 0) (varW 1)) (opW eqSF (cbW reprF (consW (varW 0) nilW)) (cbW reprF (consW (varW 1) nilW)))))
theorem ok_law_alike  {f : Addr} {fd : FuncData} {b : BP} (Z : Nones mg)   (F : L2.Fun K "_law_alike" "_law_alike" s_law_alike f fd) : GFn P w K mg base CX0 1 f fd ["found", "due"] (spD K b 2 (bodyW 2 (m_law_alike ))) := by

  refine def_ok F sc_law_alike ?_
  intro cdv A o s H E rm
  exact ⟨_, (pss_one (ps_ret (pe_and (pe_cmpR (op_eqD rm.u64) (pv 0) (pv 1) (nomark _)) (pe_one (pe_cmpR op_eq (pe_callB (call_repr rm) (by rfl) Z.zrepr (by rfl) (pa_cons (pv 0) pa_nil)) (pe_callB (call_repr rm) (by rfl) Z.zrepr (by rfl) (pa_cons (pv 1) pa_nil)) (nomark _)))))), (snd_ret (snd_andV (snd_op rv_eqD snd_var snd_var) (snd_op rv_eqS (snd_cb rc_repr (snd_cons snd_var snd_nil)) (snd_cb rc_repr (snd_cons snd_var snd_nil)))))⟩
abbrev s_law_schema : Stmt := top 26
theorem sc_law_schema : FnScope ["bag", "most", "names", "tables", "name", "columns", "column", "other", "sorts", "rules", "at"] ["bag", "most"] (defScope s_law_schema) := ⟨rfl, rfl, rfl, by decide +kernel, rfl, by decide +kernel, by decide +kernel⟩
def m_law_schema (F_law_mixed : FmF) (F_law_take : Fm) (F_law_some : Fm) (F_law_check : Fm) : Ws := (seqW (setFW 2 (cbF srtF (consW (lW (slLF (lW (callF 2 F_law_mixed (consW (varW 0) (consW (frzW (lstW (consW (conW (.str "a")) (consW (conW (.str "bird")) (consW (conW (.str "c1")) (consW (conW (.str "d")) (consW (conW (.str "e")) nilW))))))) nilW)))) noW (partW (opW (iiF (fun _ _ => True) fun i j => .int (i + j)) (conW (.int 1)) (callW 2 F_law_take (consW (varW 0) (consW (varW 1) nilW))))))) nilW))) (seqW (setFW 3 (lstW nilW)) (seqW (relW 2 (forW (itLW (varW 2)) (gnW 4) (seqW (setFW 5 (lstW nilW)) (seqW (forW (itLW (frzW (cbF srtF (consW (lW (slLF (lW (callF 2 F_law_mixed (consW (varW 0) (consW (frzW (lstW (consW (conW (.str "m")) (consW (conW (.str "n")) (consW (conW (.str "p")) (consW (conW (.str "q2")) nilW)))))) nilW)))) noW (partW (callW 2 F_law_some (consW (varW 0) (consW (lW (lstW (consW (conW (.int 1)) (consW (conW (.int 2)) (consW (conW (.int 3)) (consW (conW (.int 0)) (consW (conW (.int 2)) nilW))))))) nilW)))))) nilW)))) (gnW 6) (seqW (setW 7 (callW 2 F_law_some (consW (varW 0) (consW (varW 2) nilW)))) (seqW (setFW 8 (lstW (consW (tupW (consW (conW (.str "int")) nilW)) (consW (tupW (consW (conW (.str "int")) nilW)) (consW (tupW (consW (conW (.str "below")) (consW (callW 2 F_law_some (consW (varW 0) (consW (lW (lstW (consW (conW (.int 1)) (consW (conW (.int 4)) (consW (conW (.int 10)) nilW))))) nilW))) nilW))) (consW (tupW (consW (conW (.str "ref")) (consW (varW 7) nilW))) (consW (tupW (consW (conW (.str "may")) (consW (varW 7) nilW))) nilW))))))) (appW 5 (tupW (consW (varW 6) (consW (callW 2 F_law_some (consW (varW 0) (consW (varW 8) nilW))) nilW))))))) (appW 3 (tupW (consW (varW 4) (consW (tupW (consW (cbW tupF (consW (varW 5) nilW)) (consW (callW 2 F_law_check (consW (varW 0) (consW (varW 5) nilW))) nilW))) nilW)))))))) (seqW (setFW 9 (lstW nilW)) (seqW (forW (itEW (frzW (slLF (varW 2) noW (partW (negW (conW (.int 1))))))) (gtupW 2 (gconsW (gnW 10) (gconsW (gnW 4) gnilW))) (iffW (testW (opW eqF (callW 2 F_law_take (consW (varW 0) (consW (conW (.int 4)) nilW))) (conW (.int 0)))) (appW 9 (tupW (consW (callW 2 F_law_some (consW (varW 0) (consW (lW (lstW (consW (conW (.str "apart")) (consW (conW (.str "same")) nilW)))) nilW))) (consW (varW 4) (consW (opW ixF (varW 2) (opW (iiF (fun _ _ => True) fun i j => .int (i + j)) (varW 10) (conW (.int 1)))) nilW))))) nxtW)) (retW (tupW (consW (cbW tupF (consW (varW 3) nilW)) (consW (cbW tupF (consW (lW (cbF srtF (consW (varW 9) nilW))) nilW)) nilW)))))))))
theorem ok_law_schema (F_law_mixed : FmF) (F_law_take : Fm) (F_law_some : Fm) (F_law_check : Fm) {f : Addr} {fd : FuncData} {b : BP} (Z : Nones mg)  {f_law_mixed : Addr} {fd_law_mixed : FuncData} (D_law_mixed : Dfn P w K mg base 2 f_law_mixed fd_law_mixed "_law_mixed" ["bag", "things"] (spF K b 2 F_law_mixed)) {f_law_take : Addr} {fd_law_take : FuncData} (D_law_take : Dfn P w K mg base 1 f_law_take fd_law_take "_law_take" ["bag", "many"] (spD K b 2 F_law_take)) {f_law_some : Addr} {fd_law_some : FuncData} (D_law_some : Dfn P w K mg base 2 f_law_some fd_law_some "_law_some" ["bag", "things"] (spD K b 2 F_law_some)) {f_law_check : Addr} {fd_law_check : FuncData} (D_law_check : Dfn P w K mg base 3 f_law_check fd_law_check "_law_check" ["bag", "columns"] (spD K b 2 F_law_check)) (F : L2.Fun K "_law_schema" "_law_schema" s_law_schema f fd) : GFn P w K mg base CX0 4 f fd ["bag", "most"] (spD K b 2 (bodyW 11 (m_law_schema F_law_mixed F_law_take F_law_some F_law_check))) := by
  have D_law_mixedle : 2 ≤ 3 := by decide
  have D_law_takele : 1 ≤ 3 := by decide
  have D_law_somele : 2 ≤ 3 := by decide
  have D_law_checkle : 3 ≤ 3 := by decide
  refine def_ok F sc_law_schema ?_
  intro cdv A o s H E rm
  exact ⟨_, (pss_cons (ps_set (i := 2) sc_law_schema.nd rfl (by first | exact Or.inl rfl | exact Or.inr rfl) (pe_callB (call_sortA rm) (by rfl) Z.zsorted (by rfl) (pa_cons (pe_slice sl_list (pe_g (D_law_mixed.gfn.mono D_law_mixedle) rm (by rfl) D_law_mixed.mg D_law_mixed.kp D_law_mixed.bi .nil pass0 (pa_cons (pv 0) (pa_cons (pe_lst (pa_cons pe_str (pa_cons pe_str (pa_cons pe_str (pa_cons pe_str (pa_cons pe_str pa_nil)))))) pa_nil))) po_none (po_some (pe_op op_add pe_int (pe_g (D_law_take.gfn.mono D_law_takele) rm (by rfl) D_law_take.mg D_law_take.kp D_law_take.bi .nil pass0 (pa_cons (pv 0) (pa_cons (pv 1) pa_nil)))))) pa_nil))) (pss_cons (ps_set (i := 3) sc_law_schema.nd rfl (by first | exact Or.inl rfl | exact Or.inr rfl) (pe_lst pa_nil)) (pss_cons (ps_for PassesOwn.leaving rfl (pi_list (pv 2)) (pg_name (i := 4) sc_law_schema.nd rfl (by first | exact Or.inl rfl | exact Or.inr rfl)) (pss_cons (ps_set (i := 5) sc_law_schema.nd rfl (by first | exact Or.inl rfl | exact Or.inr rfl) (pe_lst pa_nil)) (pss_cons (ps_for PassesOwn.leaving rfl (pi_list (pe_callB (call_sortA rm) (by rfl) Z.zsorted (by rfl) (pa_cons (pe_slice sl_list (pe_g (D_law_mixed.gfn.mono D_law_mixedle) rm (by rfl) D_law_mixed.mg D_law_mixed.kp D_law_mixed.bi .nil pass0 (pa_cons (pv 0) (pa_cons (pe_lst (pa_cons pe_str (pa_cons pe_str (pa_cons pe_str (pa_cons pe_str pa_nil))))) pa_nil))) po_none (po_some (pe_g (D_law_some.gfn.mono D_law_somele) rm (by rfl) D_law_some.mg D_law_some.kp D_law_some.bi .nil pass0 (pa_cons (pv 0) (pa_cons (pe_lst (pa_cons pe_int (pa_cons pe_int (pa_cons pe_int (pa_cons pe_int (pa_cons pe_int pa_nil)))))) pa_nil))))) pa_nil))) (pg_name (i := 6) sc_law_schema.nd rfl (by first | exact Or.inl rfl | exact Or.inr rfl)) (pss_cons (ps_set (i := 7) sc_law_schema.nd rfl (by first | exact Or.inl rfl | exact Or.inr rfl) (pe_g (D_law_some.gfn.mono D_law_somele) rm (by rfl) D_law_some.mg D_law_some.kp D_law_some.bi .nil pass0 (pa_cons (pv 0) (pa_cons (pv 2) pa_nil)))) (pss_cons (ps_set (i := 8) sc_law_schema.nd rfl (by first | exact Or.inl rfl | exact Or.inr rfl) (pe_lst (pa_cons (pe_tupZ (pa_cons pe_str pa_nil)) (pa_cons (pe_tupZ (pa_cons pe_str pa_nil)) (pa_cons (pe_tupZ (pa_cons pe_str (pa_cons (pe_g (D_law_some.gfn.mono D_law_somele) rm (by rfl) D_law_some.mg D_law_some.kp D_law_some.bi .nil pass0 (pa_cons (pv 0) (pa_cons (pe_lst (pa_cons pe_int (pa_cons pe_int (pa_cons pe_int pa_nil)))) pa_nil))) pa_nil))) (pa_cons (pe_tupZ (pa_cons pe_str (pa_cons (pv 7) pa_nil))) (pa_cons (pe_tupZ (pa_cons pe_str (pa_cons (pv 7) pa_nil))) pa_nil))))))) (pss_one (ps_expr (pe_bm PySem.F.plainAttrs_list PySem.F.slot_list_append PySem.F.type_list_append mt_append (pv 5) (pa_cons (pe_tupZ (pa_cons (pv 6) (pa_cons (pe_g (D_law_some.gfn.mono D_law_somele) rm (by rfl) D_law_some.mg D_law_some.kp D_law_some.bi .nil pass0 (pa_cons (pv 0) (pa_cons (pv 8) pa_nil))) pa_nil))) pa_nil))))))) (pss_one (ps_expr (pe_bm PySem.F.plainAttrs_list PySem.F.slot_list_append PySem.F.type_list_append mt_append (pv 3) (pa_cons (pe_tupZ (pa_cons (pv 4) (pa_cons (pe_tupZ (pa_cons (pe_callTy call_tupZ (by rfl) Z.ztuple (by rfl) (pa_cons (pv 5) pa_nil)) (pa_cons (pe_g (D_law_check.gfn.mono D_law_checkle) rm (by rfl) D_law_check.mg D_law_check.kp D_law_check.bi .nil pass0 (pa_cons (pv 0) (pa_cons (pv 5) pa_nil))) pa_nil))) pa_nil))) pa_nil))))))) (pss_cons (ps_set (i := 9) sc_law_schema.nd rfl (by first | exact Or.inl rfl | exact Or.inr rfl) (pe_lst pa_nil)) (pss_cons (ps_for PassesOwn.leaving rfl (pi_enum (by rfl) Z.zenumerate (pa_cons (pe_slice sl_list (pv 2) po_none (po_some (pe_un un_neg pe_int))) pa_nil)) (pg_tup rfl (pgs_cons (pg_name (i := 10) sc_law_schema.nd rfl (by first | exact Or.inl rfl | exact Or.inr rfl)) (pgs_cons (pg_name (i := 4) sc_law_schema.nd rfl (by first | exact Or.inl rfl | exact Or.inr rfl)) pgs_nil))) (pss_one (ps_if (pt_cmpR (op_eqD rm.u64) (pe_g (D_law_take.gfn.mono D_law_takele) rm (by rfl) D_law_take.mg D_law_take.kp D_law_take.bi .nil pass0 (pa_cons (pv 0) (pa_cons pe_int pa_nil))) pe_int (nomark _)) (pss_one (ps_expr (pe_bm PySem.F.plainAttrs_list PySem.F.slot_list_append PySem.F.type_list_append mt_append (pv 9) (pa_cons (pe_tupZ (pa_cons (pe_g (D_law_some.gfn.mono D_law_somele) rm (by rfl) D_law_some.mg D_law_some.kp D_law_some.bi .nil pass0 (pa_cons (pv 0) (pa_cons (pe_lst (pa_cons pe_str (pa_cons pe_str pa_nil))) pa_nil))) (pa_cons (pv 4) (pa_cons (pe_ix ix_seq (pv 2) (pe_op op_add (pv 10) pe_int) (fun _ _ => rfl)) pa_nil)))) pa_nil)))) pss_nil))) (pss_one (ps_ret (pe_tupZ (pa_cons (pe_callTy call_tupZ (by rfl) Z.ztuple (by rfl) (pa_cons (pv 3) pa_nil)) (pa_cons (pe_callTy call_tupZ (by rfl) Z.ztuple (by rfl) (pa_cons (pe_callB (call_sortA rm) (by rfl) Z.zsorted (by rfl) (pa_cons (pv 9) pa_nil)) pa_nil)) pa_nil)))))))))), (snd_seq (snd_setF (snd_cbF rc_sortA (snd_cons (snd_l (snd_slL (snd_l (snd_callF (snd_cons snd_var (snd_cons (snd_frz (snd_lst (snd_cons snd_str (snd_cons snd_str (snd_cons snd_str (snd_cons snd_str (snd_cons snd_str snd_nil))))))) snd_nil)))) so_no (so_part (snd_op (rv_ii0 (f := fun i j => .int (i + j)) fun _ _ _ => Dq.int _) snd_int (snd_call (snd_cons snd_var (snd_cons snd_var snd_nil))))))) snd_nil))) (snd_seq (snd_setF (snd_lst snd_nil)) (snd_seq (snd_rel 2 (snd_for (si_list snd_var) sg_name (snd_seq (snd_setF (snd_lst snd_nil)) (snd_seq (snd_for (si_list (snd_frz (snd_cbF rc_sortA (snd_cons (snd_l (snd_slL (snd_l (snd_callF (snd_cons snd_var (snd_cons (snd_frz (snd_lst (snd_cons snd_str (snd_cons snd_str (snd_cons snd_str (snd_cons snd_str snd_nil)))))) snd_nil)))) so_no (so_part (snd_call (snd_cons snd_var (snd_cons (snd_l (snd_lst (snd_cons snd_int (snd_cons snd_int (snd_cons snd_int (snd_cons snd_int (snd_cons snd_int snd_nil))))))) snd_nil)))))) snd_nil)))) sg_name (snd_seq (snd_set (snd_call (snd_cons snd_var (snd_cons snd_var snd_nil)))) (snd_seq (snd_setF (snd_lst (snd_cons (snd_tup (snd_cons snd_str snd_nil)) (snd_cons (snd_tup (snd_cons snd_str snd_nil)) (snd_cons (snd_tup (snd_cons snd_str (snd_cons (snd_call (snd_cons snd_var (snd_cons (snd_l (snd_lst (snd_cons snd_int (snd_cons snd_int (snd_cons snd_int snd_nil))))) snd_nil))) snd_nil))) (snd_cons (snd_tup (snd_cons snd_str (snd_cons snd_var snd_nil))) (snd_cons (snd_tup (snd_cons snd_str (snd_cons snd_var snd_nil))) snd_nil))))))) (snd_app (snd_tup (snd_cons snd_var (snd_cons (snd_call (snd_cons snd_var (snd_cons snd_var snd_nil))) snd_nil))))))) (snd_app (snd_tup (snd_cons snd_var (snd_cons (snd_tup (snd_cons (snd_cb rc_tup (snd_cons snd_var snd_nil)) (snd_cons (snd_call (snd_cons snd_var (snd_cons snd_var snd_nil))) snd_nil))) snd_nil)))))))) (snd_seq (snd_setF (snd_lst snd_nil)) (snd_seq (snd_for (si_enum (snd_frz (snd_slL snd_var so_no (so_part (snd_neg snd_int))))) (sg_tup (sg_cons sg_name (sg_cons sg_name sg_nil))) (snd_ifS (snd_test (snd_op rv_eqD (snd_call (snd_cons snd_var (snd_cons snd_int snd_nil))) snd_int)) (snd_app (snd_tup (snd_cons (snd_call (snd_cons snd_var (snd_cons (snd_l (snd_lst (snd_cons snd_str (snd_cons snd_str snd_nil)))) snd_nil))) (snd_cons snd_var (snd_cons (snd_op rv_ix snd_var (snd_op (rv_ii0 (f := fun i j => .int (i + j)) fun _ _ _ => Dq.int _) snd_var snd_int)) snd_nil))))) snd_next)) (snd_ret (snd_tup (snd_cons (snd_cb rc_tup (snd_cons snd_var snd_nil)) (snd_cons (snd_cb rc_tup (snd_cons (snd_l (snd_cbF rc_sortA (snd_cons snd_var snd_nil))) snd_nil)) snd_nil)))))))))⟩
abbrev s_law_check : Stmt := top 27
theorem sc_law_check : FnScope ["bag", "columns", "column", "menu"] ["bag", "columns"] (defScope s_law_check) := ⟨rfl, rfl, rfl, by decide +kernel, rfl, by decide +kernel, by decide +kernel⟩
def m_law_check (F_law_take : Fm) (F_law_some : Fm) : Ws := (seqW (iffW (orW (testW (opW eqF (varW 1) (lW (lstW nilW)))) (testW (opW (iiF (fun _ _ => True) fun i j => .bool (decide (j < i))) (callW 2 F_law_take (consW (varW 0) (consW (conW (.int 3)) nilW))) (conW (.int 0))))) (retW (callW 2 F_law_some (consW (varW 0) (consW (lW (lstW (consW (tupW (consW (conW (.str "true")) nilW)) (consW (tupW (consW (conW (.str "true")) nilW)) (consW (tupW (consW (conW (.str "<")) (consW (tupW (consW (conW (.str "num")) (consW (negW (conW (.int 90))) nilW))) (consW (tupW (consW (conW (.str "key")) nilW)) nilW)))) nilW))))) nilW)))) nxtW) (seqW (setW 2 (tupW (consW (conW (.str "col")) (consW (opW ixF (callW 2 F_law_some (consW (varW 0) (consW (varW 1) nilW))) (conW (.int 0))) nilW)))) (seqW (setFW 3 (lstW (consW (tupW (consW (conW (.str "<")) (consW (varW 2) (consW (tupW (consW (conW (.str "num")) (consW (conW (.int 40)) nilW))) nilW)))) (consW (tupW (consW (conW (.str "not")) (consW (tupW (consW (conW (.str "=")) (consW (varW 2) (consW (tupW (consW (conW (.str "num")) (consW (conW (.int 7)) nilW))) nilW)))) nilW))) nilW)))) (retW (callW 2 F_law_some (consW (varW 0) (consW (lW (opF catF (varW 3) (lW (lstW (consW (tupW (consW (conW (.str "or")) (consW (tupW (consW (conW (.str "none")) (consW (varW 2) nilW))) (consW (tupW (consW (conW (.str "<")) (consW (tupW (consW (conW (.str "num")) (consW (negW (conW (.int 50))) nilW))) (consW (varW 2) nilW)))) nilW)))) nilW))))) nilW)))))))
theorem ok_law_check (F_law_take : Fm) (F_law_some : Fm) {f : Addr} {fd : FuncData} {b : BP} (Z : Nones mg)  {f_law_take : Addr} {fd_law_take : FuncData} (D_law_take : Dfn P w K mg base 1 f_law_take fd_law_take "_law_take" ["bag", "many"] (spD K b 2 F_law_take)) {f_law_some : Addr} {fd_law_some : FuncData} (D_law_some : Dfn P w K mg base 2 f_law_some fd_law_some "_law_some" ["bag", "things"] (spD K b 2 F_law_some)) (F : L2.Fun K "_law_check" "_law_check" s_law_check f fd) : GFn P w K mg base CX0 3 f fd ["bag", "columns"] (spD K b 2 (bodyW 4 (m_law_check F_law_take F_law_some))) := by
  have D_law_takele : 1 ≤ 2 := by decide
  have D_law_somele : 2 ≤ 2 := by decide
  refine def_ok F sc_law_check ?_
  intro cdv A o s H E rm
  exact ⟨_, (pss_cons (ps_if (pw_or (pt_cmpR (op_eqD rm.u64) (pv 1) (pe_lst pa_nil) (nomark _)) (pw_or1 (pt_cmpR op_gt (pe_g (D_law_take.gfn.mono D_law_takele) rm (by rfl) D_law_take.mg D_law_take.kp D_law_take.bi .nil pass0 (pa_cons (pv 0) (pa_cons pe_int pa_nil))) pe_int (nomark _)))).pt (pss_one (ps_ret (pe_g (D_law_some.gfn.mono D_law_somele) rm (by rfl) D_law_some.mg D_law_some.kp D_law_some.bi .nil pass0 (pa_cons (pv 0) (pa_cons (pe_lst (pa_cons (pe_tupZ (pa_cons pe_str pa_nil)) (pa_cons (pe_tupZ (pa_cons pe_str pa_nil)) (pa_cons (pe_tupZ (pa_cons pe_str (pa_cons (pe_tupZ (pa_cons pe_str (pa_cons (pe_un un_neg pe_int) pa_nil))) (pa_cons (pe_tupZ (pa_cons pe_str pa_nil)) pa_nil)))) pa_nil)))) pa_nil))))) pss_nil) (pss_cons (ps_set (i := 2) sc_law_check.nd rfl (by first | exact Or.inl rfl | exact Or.inr rfl) (pe_tupZ (pa_cons pe_str (pa_cons (pe_ix ix_seq (pe_g (D_law_some.gfn.mono D_law_somele) rm (by rfl) D_law_some.mg D_law_some.kp D_law_some.bi .nil pass0 (pa_cons (pv 0) (pa_cons (pv 1) pa_nil))) pe_int (fun _ _ => rfl)) pa_nil)))) (pss_cons (ps_set (i := 3) sc_law_check.nd rfl (by first | exact Or.inl rfl | exact Or.inr rfl) (pe_lst (pa_cons (pe_tupZ (pa_cons pe_str (pa_cons (pv 2) (pa_cons (pe_tupZ (pa_cons pe_str (pa_cons pe_int pa_nil))) pa_nil)))) (pa_cons (pe_tupZ (pa_cons pe_str (pa_cons (pe_tupZ (pa_cons pe_str (pa_cons (pv 2) (pa_cons (pe_tupZ (pa_cons pe_str (pa_cons pe_int pa_nil))) pa_nil)))) pa_nil))) pa_nil)))) (pss_one (ps_ret (pe_g (D_law_some.gfn.mono D_law_somele) rm (by rfl) D_law_some.mg D_law_some.kp D_law_some.bi .nil pass0 (pa_cons (pv 0) (pa_cons (pe_op op_cat (pv 3) (pe_lst (pa_cons (pe_tupZ (pa_cons pe_str (pa_cons (pe_tupZ (pa_cons pe_str (pa_cons (pv 2) pa_nil))) (pa_cons (pe_tupZ (pa_cons pe_str (pa_cons (pe_tupZ (pa_cons pe_str (pa_cons (pe_un un_neg pe_int) pa_nil))) (pa_cons (pv 2) pa_nil)))) pa_nil)))) pa_nil))) pa_nil)))))))), (snd_seq (snd_ifS (snd_or (snd_test (snd_op rv_eqD snd_var (snd_l (snd_lst snd_nil)))) (snd_test (snd_op (rv_ii0 (f := fun i j => .bool (decide (j < i))) fun _ _ _ => Dq.bl _) (snd_call (snd_cons snd_var (snd_cons snd_int snd_nil))) snd_int))) (snd_ret (snd_call (snd_cons snd_var (snd_cons (snd_l (snd_lst (snd_cons (snd_tup (snd_cons snd_str snd_nil)) (snd_cons (snd_tup (snd_cons snd_str snd_nil)) (snd_cons (snd_tup (snd_cons snd_str (snd_cons (snd_tup (snd_cons snd_str (snd_cons (snd_neg snd_int) snd_nil))) (snd_cons (snd_tup (snd_cons snd_str snd_nil)) snd_nil)))) snd_nil))))) snd_nil)))) snd_next) (snd_seq (snd_set (snd_tup (snd_cons snd_str (snd_cons (snd_op rv_ix (snd_call (snd_cons snd_var (snd_cons snd_var snd_nil))) snd_int) snd_nil)))) (snd_seq (snd_setF (snd_lst (snd_cons (snd_tup (snd_cons snd_str (snd_cons snd_var (snd_cons (snd_tup (snd_cons snd_str (snd_cons snd_int snd_nil))) snd_nil)))) (snd_cons (snd_tup (snd_cons snd_str (snd_cons (snd_tup (snd_cons snd_str (snd_cons snd_var (snd_cons (snd_tup (snd_cons snd_str (snd_cons snd_int snd_nil))) snd_nil)))) snd_nil))) snd_nil)))) (snd_ret (snd_call (snd_cons snd_var (snd_cons (snd_l (snd_opF rv_cat snd_var (snd_l (snd_lst (snd_cons (snd_tup (snd_cons snd_str (snd_cons (snd_tup (snd_cons snd_str (snd_cons snd_var snd_nil))) (snd_cons (snd_tup (snd_cons snd_str (snd_cons (snd_tup (snd_cons snd_str (snd_cons (snd_neg snd_int) snd_nil))) (snd_cons snd_var snd_nil)))) snd_nil)))) snd_nil))))) snd_nil)))))))⟩
abbrev s_law_odd : Stmt := top 28
theorem sc_law_odd : FnScope ["bag", "some"] ["bag"] (defScope s_law_odd) := ⟨rfl, rfl, rfl, by decide +kernel, rfl, by decide +kernel, by decide +kernel⟩
def m_law_odd (F_law_some : Fm) : Ws := (seqW (setFW 1 (lstW (consW (conW .none) (consW (conW (.bool true)) (consW (conW (.bool false)) (consW (conW (.int 0)) (consW (conW (.int 1)) (consW (negW (conW (.int 1))) (consW (opW (iiF CPow fun i j => .int (i ^ j.toNat)) (conW (.int 10)) (conW (.int 39))) (consW (conW (.str "")) (consW (conW (.str "x")) (consW (conW (.str "key")) (consW (conW (.str "A")) (consW (conW (.str "a1")) (consW (tupW nilW) (consW (frzW (lstW nilW)) (consW noneW (consW (tupW (consW (conW (.int 0)) nilW)) (consW (frzW (lstW (consW (conW (.int 0)) nilW))) (consW (tupW (consW (conW (.str "int")) nilW)) (consW (tupW (consW (conW (.str "key")) nilW)) nilW))))))))))))))))))))) (seqW (setFW 1 (opF catF (varW 1) (lW (lstW (consW (tupW (consW (conW (.str "true")) nilW)) (consW (tupW (consW (conW (.str "num")) (consW (conW (.int 1)) nilW))) (consW (tupW (consW (conW (.str "num")) (consW (conW (.bool true)) nilW))) (consW (tupW (consW (conW (.str "col")) (consW (conW (.str "end")) nilW))) (consW (tupW (consW (conW (.str "below")) (consW (conW (.int 0)) nilW))) (consW (tupW (consW (conW (.str "below")) (consW (conW (.int 1001)) nilW))) (consW (tupW (consW (conW (.str "ref")) (consW (conW (.str "to")) nilW))) nilW))))))))))) (seqW (setFW 1 (opF catF (varW 1) (lW (lstW (consW (tupW (consW (conW (.str "list")) (consW (tupW nilW) nilW))) (consW (tupW (consW (conW (.str "plus")) (consW (conW .none) nilW))) (consW (tupW (consW (conW (.str "by")) (consW (tupW (consW (conW (.str "turned")) nilW)) (consW (tupW (consW (conW (.str "key")) nilW)) nilW)))) (consW (tupW (consW (conW (.str "none")) nilW)) (consW (tupW (consW (conW (.str "take")) (consW (conW (.str "a")) nilW))) (consW (dis1W (conW (.int 0)) (tupW nilW)) nilW)))))))))) (retW (callW 2 F_law_some (consW (varW 0) (consW (lW (opF catF (varW 1) (lW (lstW (consW (tupW (consW (tupW nilW) (consW (tupW nilW) nilW))) nilW))))) nilW)))))))
theorem ok_law_odd (F_law_some : Fm) {f : Addr} {fd : FuncData} {b : BP} (Z : Nones mg)  {f_law_some : Addr} {fd_law_some : FuncData} (D_law_some : Dfn P w K mg base 2 f_law_some fd_law_some "_law_some" ["bag", "things"] (spD K b 2 F_law_some)) (F : L2.Fun K "_law_odd" "_law_odd" s_law_odd f fd) : GFn P w K mg base CX0 3 f fd ["bag"] (spD K b 1 (bodyW 2 (m_law_odd F_law_some))) := by
  have D_law_somele : 2 ≤ 2 := by decide
  refine def_ok F sc_law_odd ?_
  intro cdv A o s H E rm
  exact ⟨_, (pss_cons (ps_set (i := 1) sc_law_odd.nd rfl (by first | exact Or.inl rfl | exact Or.inr rfl) (pe_lst (pa_cons pe_non (pa_cons pe_bl (pa_cons pe_bl (pa_cons pe_int (pa_cons pe_int (pa_cons (pe_un un_neg pe_int) (pa_cons (pe_op op_pow pe_int pe_int) (pa_cons pe_str (pa_cons pe_str (pa_cons pe_str (pa_cons pe_str (pa_cons pe_str (pa_cons (pe_tupZ pa_nil) (pa_cons (pe_lst pa_nil) (pa_cons pe_dnewK (pa_cons (pe_tupZ (pa_cons pe_int pa_nil)) (pa_cons (pe_lst (pa_cons pe_int pa_nil)) (pa_cons (pe_tupZ (pa_cons pe_str pa_nil)) (pa_cons (pe_tupZ (pa_cons pe_str pa_nil)) pa_nil))))))))))))))))))))) (pss_cons (ps_set (i := 1) sc_law_odd.nd rfl (by first | exact Or.inl rfl | exact Or.inr rfl) (pe_op op_cat (pv 1) (pe_lst (pa_cons (pe_tupZ (pa_cons pe_str pa_nil)) (pa_cons (pe_tupZ (pa_cons pe_str (pa_cons pe_int pa_nil))) (pa_cons (pe_tupZ (pa_cons pe_str (pa_cons pe_bl pa_nil))) (pa_cons (pe_tupZ (pa_cons pe_str (pa_cons pe_str pa_nil))) (pa_cons (pe_tupZ (pa_cons pe_str (pa_cons pe_int pa_nil))) (pa_cons (pe_tupZ (pa_cons pe_str (pa_cons pe_int pa_nil))) (pa_cons (pe_tupZ (pa_cons pe_str (pa_cons pe_str pa_nil))) pa_nil)))))))))) (pss_cons (ps_set (i := 1) sc_law_odd.nd rfl (by first | exact Or.inl rfl | exact Or.inr rfl) (pe_op op_cat (pv 1) (pe_lst (pa_cons (pe_tupZ (pa_cons pe_str (pa_cons (pe_tupZ pa_nil) pa_nil))) (pa_cons (pe_tupZ (pa_cons pe_str (pa_cons pe_non pa_nil))) (pa_cons (pe_tupZ (pa_cons pe_str (pa_cons (pe_tupZ (pa_cons pe_str pa_nil)) (pa_cons (pe_tupZ (pa_cons pe_str pa_nil)) pa_nil)))) (pa_cons (pe_tupZ (pa_cons pe_str pa_nil)) (pa_cons (pe_tupZ (pa_cons pe_str (pa_cons pe_str pa_nil))) (pa_cons (pe_disp (pps_cons pe_int (pe_tupZ pa_nil) pps_nil) rfl rfl (by simp) (by decide)) pa_nil))))))))) (pss_one (ps_ret (pe_g (D_law_some.gfn.mono D_law_somele) rm (by rfl) D_law_some.mg D_law_some.kp D_law_some.bi .nil pass0 (pa_cons (pv 0) (pa_cons (pe_op op_cat (pv 1) (pe_lst (pa_cons (pe_tupZ (pa_cons (pe_tupZ pa_nil) (pa_cons (pe_tupZ pa_nil) pa_nil))) pa_nil))) pa_nil)))))))), (snd_seq (snd_setF (snd_lst (snd_cons snd_non (snd_cons snd_bl (snd_cons snd_bl (snd_cons snd_int (snd_cons snd_int (snd_cons (snd_neg snd_int) (snd_cons (snd_op (rv_ii (C := CPow) (f := fun i j => .int (i ^ j.toNat)) fun _ _ _ => Dq.int _) snd_int snd_int) (snd_cons snd_str (snd_cons snd_str (snd_cons snd_str (snd_cons snd_str (snd_cons snd_str (snd_cons (snd_tup snd_nil) (snd_cons (snd_frz (snd_lst snd_nil)) (snd_cons snd_dnew (snd_cons (snd_tup (snd_cons snd_int snd_nil)) (snd_cons (snd_frz (snd_lst (snd_cons snd_int snd_nil))) (snd_cons (snd_tup (snd_cons snd_str snd_nil)) (snd_cons (snd_tup (snd_cons snd_str snd_nil)) snd_nil))))))))))))))))))))) (snd_seq (snd_setF (snd_opF rv_cat snd_var (snd_l (snd_lst (snd_cons (snd_tup (snd_cons snd_str snd_nil)) (snd_cons (snd_tup (snd_cons snd_str (snd_cons snd_int snd_nil))) (snd_cons (snd_tup (snd_cons snd_str (snd_cons snd_bl snd_nil))) (snd_cons (snd_tup (snd_cons snd_str (snd_cons snd_str snd_nil))) (snd_cons (snd_tup (snd_cons snd_str (snd_cons snd_int snd_nil))) (snd_cons (snd_tup (snd_cons snd_str (snd_cons snd_int snd_nil))) (snd_cons (snd_tup (snd_cons snd_str (snd_cons snd_str snd_nil))) snd_nil))))))))))) (snd_seq (snd_setF (snd_opF rv_cat snd_var (snd_l (snd_lst (snd_cons (snd_tup (snd_cons snd_str (snd_cons (snd_tup snd_nil) snd_nil))) (snd_cons (snd_tup (snd_cons snd_str (snd_cons snd_non snd_nil))) (snd_cons (snd_tup (snd_cons snd_str (snd_cons (snd_tup (snd_cons snd_str snd_nil)) (snd_cons (snd_tup (snd_cons snd_str snd_nil)) snd_nil)))) (snd_cons (snd_tup (snd_cons snd_str snd_nil)) (snd_cons (snd_tup (snd_cons snd_str (snd_cons snd_str snd_nil))) (snd_cons (snd_dis1 snd_int (snd_tup snd_nil)) snd_nil)))))))))) (snd_ret (snd_call (snd_cons snd_var (snd_cons (snd_l (snd_opF rv_cat snd_var (snd_l (snd_lst (snd_cons (snd_tup (snd_cons (snd_tup snd_nil) (snd_cons (snd_tup snd_nil) snd_nil))) snd_nil))))) snd_nil)))))))⟩
abbrev s_law_any_way : Stmt := top 29
theorem sc_law_any_way : FnScope ["bag", "some", "turn"] ["bag"] (defScope s_law_any_way) := ⟨rfl, rfl, rfl, by decide +kernel, rfl, by decide +kernel, by decide +kernel⟩
def m_law_any_way (F_law_some : Fm) (F_law_take : Fm) : Ws := (seqW (setFW 1 (lstW (consW (tupW (consW (conW (.str "plus")) (consW (callW 2 F_law_some (consW (varW 0) (consW (lW (lstW (consW (conW (.int 0)) (consW (conW (.int 3)) (consW (negW (conW (.int 7))) (consW (conW (.int 100)) nilW)))))) nilW))) nilW))) (consW (tupW (consW (conW (.str "turned")) nilW)) (consW (tupW (consW (conW (.str "times")) (consW (callW 2 F_law_some (consW (varW 0) (consW (lW (lstW (consW (conW (.int 1)) (consW (conW (.int 2)) (consW (conW (.int 1000)) nilW))))) nilW))) nilW))) nilW))))) (seqW (setFW 1 (opF catF (varW 1) (lW (lstW (consW (tupW (consW (conW (.str "over")) (consW (callW 2 F_law_some (consW (varW 0) (consW (lW (lstW (consW (conW (.int 1)) (consW (conW (.int 3)) (consW (conW (.int 10)) nilW))))) nilW))) nilW))) (consW (tupW (consW (conW (.str "rest")) (consW (callW 2 F_law_some (consW (varW 0) (consW (lW (lstW (consW (conW (.int 1)) (consW (conW (.int 4)) (consW (conW (.int 1000)) nilW))))) nilW))) nilW))) nilW)))))) (retW (callW 2 F_law_some (consW (varW 0) (consW (lW (opF catF (varW 1) (lW (lstW (consW (tupW (consW (conW (.str "list")) (consW (cbW tupF (consW (lW (lcompW [2] (itRW (opW (iiF (fun _ _ => True) fun i j => .int (i + j)) (conW (.int 1)) (callW 2 F_law_take (consW (varW 0) (consW (conW (.int 4)) nilW))))) (gnW 2) yesW (opW (iiF (fun _ _ => True) fun i j => .int (i - j)) (callW 2 F_law_take (consW (varW 0) (consW (conW (.int 9)) nilW))) (conW (.int 3))))) nilW)) nilW))) nilW))))) nilW))))))
theorem ok_law_any_way (F_law_some : Fm) (F_law_take : Fm) {f : Addr} {fd : FuncData} {b : BP} (Z : Nones mg)  {f_law_some : Addr} {fd_law_some : FuncData} (D_law_some : Dfn P w K mg base 2 f_law_some fd_law_some "_law_some" ["bag", "things"] (spD K b 2 F_law_some)) {f_law_take : Addr} {fd_law_take : FuncData} (D_law_take : Dfn P w K mg base 1 f_law_take fd_law_take "_law_take" ["bag", "many"] (spD K b 2 F_law_take)) (F : L2.Fun K "_law_any_way" "_law_any_way" s_law_any_way f fd) : GFn P w K mg base CX0 3 f fd ["bag"] (spD K b 1 (bodyW 3 (m_law_any_way F_law_some F_law_take))) := by
  have D_law_somele : 2 ≤ 2 := by decide
  have D_law_takele : 1 ≤ 2 := by decide
  refine def_ok F sc_law_any_way ?_
  intro cdv A o s H E rm
  exact ⟨_, (pss_cons (ps_set (i := 1) sc_law_any_way.nd rfl (by first | exact Or.inl rfl | exact Or.inr rfl) (pe_lst (pa_cons (pe_tupZ (pa_cons pe_str (pa_cons (pe_g (D_law_some.gfn.mono D_law_somele) rm (by rfl) D_law_some.mg D_law_some.kp D_law_some.bi .nil pass0 (pa_cons (pv 0) (pa_cons (pe_lst (pa_cons pe_int (pa_cons pe_int (pa_cons (pe_un un_neg pe_int) (pa_cons pe_int pa_nil))))) pa_nil))) pa_nil))) (pa_cons (pe_tupZ (pa_cons pe_str pa_nil)) (pa_cons (pe_tupZ (pa_cons pe_str (pa_cons (pe_g (D_law_some.gfn.mono D_law_somele) rm (by rfl) D_law_some.mg D_law_some.kp D_law_some.bi .nil pass0 (pa_cons (pv 0) (pa_cons (pe_lst (pa_cons pe_int (pa_cons pe_int (pa_cons pe_int pa_nil)))) pa_nil))) pa_nil))) pa_nil))))) (pss_cons (ps_set (i := 1) sc_law_any_way.nd rfl (by first | exact Or.inl rfl | exact Or.inr rfl) (pe_op op_cat (pv 1) (pe_lst (pa_cons (pe_tupZ (pa_cons pe_str (pa_cons (pe_g (D_law_some.gfn.mono D_law_somele) rm (by rfl) D_law_some.mg D_law_some.kp D_law_some.bi .nil pass0 (pa_cons (pv 0) (pa_cons (pe_lst (pa_cons pe_int (pa_cons pe_int (pa_cons pe_int pa_nil)))) pa_nil))) pa_nil))) (pa_cons (pe_tupZ (pa_cons pe_str (pa_cons (pe_g (D_law_some.gfn.mono D_law_somele) rm (by rfl) D_law_some.mg D_law_some.kp D_law_some.bi .nil pass0 (pa_cons (pv 0) (pa_cons (pe_lst (pa_cons pe_int (pa_cons pe_int (pa_cons pe_int pa_nil)))) pa_nil))) pa_nil))) pa_nil))))) (pss_one (ps_ret (pe_g (D_law_some.gfn.mono D_law_somele) rm (by rfl) D_law_some.mg D_law_some.kp D_law_some.bi .nil pass0 (pa_cons (pv 0) (pa_cons (pe_op op_cat (pv 1) (pe_lst (pa_cons (pe_tupZ (pa_cons pe_str (pa_cons (pe_callTy call_tupZ (by rfl) Z.ztuple (by rfl) (pa_cons (pe_lc (own := [("turn", 2)]) rfl sc_law_any_way.nd (pi_range1 (by rfl) Z.zrange (pa_cons (pe_op op_add pe_int (pe_g (D_law_take.gfn.mono D_law_takele) rm (by rfl) D_law_take.mg D_law_take.kp D_law_take.bi .nil pass0 (pa_cons (pv 0) (pa_cons pe_int pa_nil)))) pa_nil)) (blkOk_by (by show blkC ["bag", "some", "turn"] (defScope s_law_any_way) _ _ = true; decide +kernel)) (fun _ _ _ _ _ => (pg_name (i := 2) sc_law_any_way.nd rfl (by first | exact Or.inl rfl | exact Or.inr rfl))) (fun _ _ _ _ _ => pts_nil) (fun _ _ _ _ _ => (pe_op op_sub (pe_g (D_law_take.gfn.mono D_law_takele) rm (by rfl) D_law_take.mg D_law_take.kp D_law_take.bi .nil pass0 (pa_cons (pv 0) (pa_cons pe_int pa_nil))) pe_int))) pa_nil)) pa_nil))) pa_nil))) pa_nil))))))), (snd_seq (snd_setF (snd_lst (snd_cons (snd_tup (snd_cons snd_str (snd_cons (snd_call (snd_cons snd_var (snd_cons (snd_l (snd_lst (snd_cons snd_int (snd_cons snd_int (snd_cons (snd_neg snd_int) (snd_cons snd_int snd_nil)))))) snd_nil))) snd_nil))) (snd_cons (snd_tup (snd_cons snd_str snd_nil)) (snd_cons (snd_tup (snd_cons snd_str (snd_cons (snd_call (snd_cons snd_var (snd_cons (snd_l (snd_lst (snd_cons snd_int (snd_cons snd_int (snd_cons snd_int snd_nil))))) snd_nil))) snd_nil))) snd_nil))))) (snd_seq (snd_setF (snd_opF rv_cat snd_var (snd_l (snd_lst (snd_cons (snd_tup (snd_cons snd_str (snd_cons (snd_call (snd_cons snd_var (snd_cons (snd_l (snd_lst (snd_cons snd_int (snd_cons snd_int (snd_cons snd_int snd_nil))))) snd_nil))) snd_nil))) (snd_cons (snd_tup (snd_cons snd_str (snd_cons (snd_call (snd_cons snd_var (snd_cons (snd_l (snd_lst (snd_cons snd_int (snd_cons snd_int (snd_cons snd_int snd_nil))))) snd_nil))) snd_nil))) snd_nil)))))) (snd_ret (snd_call (snd_cons snd_var (snd_cons (snd_l (snd_opF rv_cat snd_var (snd_l (snd_lst (snd_cons (snd_tup (snd_cons snd_str (snd_cons (snd_cb rc_tup (snd_cons (snd_l (snd_lc (si_range (snd_op (rv_ii0 (f := fun i j => .int (i + j)) fun _ _ _ => Dq.int _) snd_int (snd_call (snd_cons snd_var (snd_cons snd_int snd_nil))))) sg_name gin_name snd_yes (snd_op (rv_ii0 (f := fun i j => .int (i - j)) fun _ _ _ => Dq.int _) (snd_call (snd_cons snd_var (snd_cons snd_int snd_nil))) snd_int))) snd_nil)) snd_nil))) snd_nil))))) snd_nil))))))⟩
abbrev s_law_any_name : Stmt := top 30
theorem sc_law_any_name : FnScope ["bag"] ["bag"] (defScope s_law_any_name) := ⟨rfl, rfl, rfl, by decide +kernel, rfl, by decide +kernel, by decide +kernel⟩
def m_law_any_name (F_law_some : Fm) : Ws := (retW (callW 2 F_law_some (consW (varW 0) (consW (lW (lstW (consW (conW (.str "a")) (consW (conW (.str "bird")) (consW (conW (.str "c1")) (consW (conW (.str "m")) (consW (conW (.str "n")) (consW (conW (.str "p")) (consW (conW (.str "q2")) (consW (conW (.str "who")) (consW (conW (.str "b")) (consW (conW (.str "xyzxyzxyzxyz")) (consW (conW (.str "num")) (consW (conW (.str "col")) nilW)))))))))))))) nilW))))
theorem ok_law_any_name (F_law_some : Fm) {f : Addr} {fd : FuncData} {b : BP} (Z : Nones mg)  {f_law_some : Addr} {fd_law_some : FuncData} (D_law_some : Dfn P w K mg base 2 f_law_some fd_law_some "_law_some" ["bag", "things"] (spD K b 2 F_law_some)) (F : L2.Fun K "_law_any_name" "_law_any_name" s_law_any_name f fd) : GFn P w K mg base CX0 3 f fd ["bag"] (spD K b 1 (bodyW 1 (m_law_any_name F_law_some))) := by
  have D_law_somele : 2 ≤ 2 := by decide
  refine def_ok F sc_law_any_name ?_
  intro cdv A o s H E rm
  exact ⟨_, (pss_one (ps_ret (pe_g (D_law_some.gfn.mono D_law_somele) rm (by rfl) D_law_some.mg D_law_some.kp D_law_some.bi .nil pass0 (pa_cons (pv 0) (pa_cons (pe_lst (pa_cons pe_str (pa_cons pe_str (pa_cons pe_str (pa_cons pe_str (pa_cons pe_str (pa_cons pe_str (pa_cons pe_str (pa_cons pe_str (pa_cons pe_str (pa_cons pe_str (pa_cons pe_str (pa_cons pe_str pa_nil))))))))))))) pa_nil))))), (snd_ret (snd_call (snd_cons snd_var (snd_cons (snd_l (snd_lst (snd_cons snd_str (snd_cons snd_str (snd_cons snd_str (snd_cons snd_str (snd_cons snd_str (snd_cons snd_str (snd_cons snd_str (snd_cons snd_str (snd_cons snd_str (snd_cons snd_str (snd_cons snd_str (snd_cons snd_str snd_nil)))))))))))))) snd_nil))))⟩
abbrev s_law_any_sort : Stmt := top 31
theorem sc_law_any_sort : FnScope ["bag", "some"] ["bag"] (defScope s_law_any_sort) := ⟨rfl, rfl, rfl, by decide +kernel, rfl, by decide +kernel, by decide +kernel⟩
def m_law_any_sort (F_law_any_name : Fm) (F_law_some : Fm) : Ws := (seqW (setFW 1 (lstW (consW (tupW (consW (conW (.str "int")) nilW)) (consW (tupW (consW (conW (.str "int")) nilW)) (consW (tupW (consW (conW (.str "below")) (consW (callW 2 F_law_some (consW (varW 0) (consW (lW (lstW (consW (conW (.int 1)) (consW (conW (.int 7)) (consW (conW (.int 1000)) nilW))))) nilW))) nilW))) (consW (tupW (consW (conW (.str "ref")) (consW (callW 1 F_law_any_name (consW (varW 0) nilW)) nilW))) nilW)))))) (retW (callW 2 F_law_some (consW (varW 0) (consW (lW (opF catF (varW 1) (lW (lstW (consW (tupW (consW (conW (.str "may")) (consW (callW 1 F_law_any_name (consW (varW 0) nilW)) nilW))) nilW))))) nilW)))))
theorem ok_law_any_sort (F_law_any_name : Fm) (F_law_some : Fm) {f : Addr} {fd : FuncData} {b : BP} (Z : Nones mg)  {f_law_any_name : Addr} {fd_law_any_name : FuncData} (D_law_any_name : Dfn P w K mg base 3 f_law_any_name fd_law_any_name "_law_any_name" ["bag"] (spD K b 1 F_law_any_name)) {f_law_some : Addr} {fd_law_some : FuncData} (D_law_some : Dfn P w K mg base 2 f_law_some fd_law_some "_law_some" ["bag", "things"] (spD K b 2 F_law_some)) (F : L2.Fun K "_law_any_sort" "_law_any_sort" s_law_any_sort f fd) : GFn P w K mg base CX0 4 f fd ["bag"] (spD K b 1 (bodyW 2 (m_law_any_sort F_law_any_name F_law_some))) := by
  have D_law_any_namele : 3 ≤ 3 := by decide
  have D_law_somele : 2 ≤ 3 := by decide
  refine def_ok F sc_law_any_sort ?_
  intro cdv A o s H E rm
  exact ⟨_, (pss_cons (ps_set (i := 1) sc_law_any_sort.nd rfl (by first | exact Or.inl rfl | exact Or.inr rfl) (pe_lst (pa_cons (pe_tupZ (pa_cons pe_str pa_nil)) (pa_cons (pe_tupZ (pa_cons pe_str pa_nil)) (pa_cons (pe_tupZ (pa_cons pe_str (pa_cons (pe_g (D_law_some.gfn.mono D_law_somele) rm (by rfl) D_law_some.mg D_law_some.kp D_law_some.bi .nil pass0 (pa_cons (pv 0) (pa_cons (pe_lst (pa_cons pe_int (pa_cons pe_int (pa_cons pe_int pa_nil)))) pa_nil))) pa_nil))) (pa_cons (pe_tupZ (pa_cons pe_str (pa_cons (pe_g (D_law_any_name.gfn.mono D_law_any_namele) rm (by rfl) D_law_any_name.mg D_law_any_name.kp D_law_any_name.bi .nil pass0 (pa_cons (pv 0) pa_nil)) pa_nil))) pa_nil)))))) (pss_one (ps_ret (pe_g (D_law_some.gfn.mono D_law_somele) rm (by rfl) D_law_some.mg D_law_some.kp D_law_some.bi .nil pass0 (pa_cons (pv 0) (pa_cons (pe_op op_cat (pv 1) (pe_lst (pa_cons (pe_tupZ (pa_cons pe_str (pa_cons (pe_g (D_law_any_name.gfn.mono D_law_any_namele) rm (by rfl) D_law_any_name.mg D_law_any_name.kp D_law_any_name.bi .nil pass0 (pa_cons (pv 0) pa_nil)) pa_nil))) pa_nil))) pa_nil)))))), (snd_seq (snd_setF (snd_lst (snd_cons (snd_tup (snd_cons snd_str snd_nil)) (snd_cons (snd_tup (snd_cons snd_str snd_nil)) (snd_cons (snd_tup (snd_cons snd_str (snd_cons (snd_call (snd_cons snd_var (snd_cons (snd_l (snd_lst (snd_cons snd_int (snd_cons snd_int (snd_cons snd_int snd_nil))))) snd_nil))) snd_nil))) (snd_cons (snd_tup (snd_cons snd_str (snd_cons (snd_call (snd_cons snd_var snd_nil)) snd_nil))) snd_nil)))))) (snd_ret (snd_call (snd_cons snd_var (snd_cons (snd_l (snd_opF rv_cat snd_var (snd_l (snd_lst (snd_cons (snd_tup (snd_cons snd_str (snd_cons (snd_call (snd_cons snd_var snd_nil)) snd_nil))) snd_nil))))) snd_nil)))))⟩
abbrev s_law_integer_in : Stmt := top 32
theorem sc_law_integer_in : FnScope ["word", "figures", "sign"] ["word"] (defScope s_law_integer_in) := ⟨rfl, rfl, rfl, by decide +kernel, rfl, by decide +kernel, by decide +kernel⟩
def m_law_integer_in  : Ws := (seqW (setW 1 (ifW (testW (opW eqSF (slSW (varW 0) noW (partW (conW (.int 1)))) (conW (.str "-")))) (slSW (varW 0) (partW (conW (.int 1))) noW) (varW 0))) (seqW (iffW (orW (notW (testW (chainW (iiF (fun _ _ => True) fun i j => .bool (decide (i ≤ j))) (iiF (fun _ _ => True) fun i j => .bool (decide (i ≤ j))) (conW (.int 1)) (cbW lenF (consW (varW 1) nilW)) (conW (.int 200))))) (testW (opW neF (lW (lcompW [2] (itSW (varW 1)) (gnW 2) (testW (opW (inSF true) (varW 2) (conW (.str "0123456789")))) (varW 2))) (lW (lstW nilW))))) (retW (conW .none)) nxtW) (retW (ifW (orW (testW (opW neSF (opW ixF (varW 1) (conW (.int 0))) (conW (.str "0")))) (testW (opW eqSF (varW 0) (conW (.str "0"))))) (cbW intSF (consW (varW 0) nilW)) (conW .none)))))
theorem ok_law_integer_in  {f : Addr} {fd : FuncData} {b : BP} (Z : Nones mg)   (F : L2.Fun K "_law_integer_in" "_law_integer_in" s_law_integer_in f fd) : GFn P w K mg base CX0 1 f fd ["word"] (spD K b 1 (bodyW 3 (m_law_integer_in ))) := by

  refine def_ok F sc_law_integer_in ?_
  intro cdv A o s H E rm
  exact ⟨_, (pss_cons (ps_set (i := 1) sc_law_integer_in.nd rfl (by first | exact Or.inl rfl | exact Or.inr rfl) (pe_ifExp (pt_cmpR op_eq (pe_slice C8.sl_txt (pv 0) po_none (po_some pe_int)) pe_str (nomark _)) (pe_slice C8.sl_txt (pv 0) (po_some pe_int) po_none) (pv 0))) (pss_cons (ps_if (pw_or (pt_not (pt_chain op_le op_le pe_int (pe_callB call_len (by rfl) Z.zlen (by rfl) (pa_cons (pv 1) pa_nil)) pe_int)) (pw_or1 (pt_cmpR (op_neD rm.u64) (pe_lc (own := [("sign", 2)]) rfl sc_law_integer_in.nd (pi_str (pv 1)) (blkOk_by (by show blkC ["word", "figures", "sign"] (defScope s_law_integer_in) _ _ = true; decide +kernel)) (fun _ _ _ _ _ => (pg_name (i := 2) sc_law_integer_in.nd rfl (by first | exact Or.inl rfl | exact Or.inr rfl))) (fun _ _ _ _ _ => (pts_one (pt_cmpR op_notin_str (pv 2) pe_str (by rfl)))) (fun _ _ _ _ _ => (pv 2))) (pe_lst pa_nil) (nomark _)))).pt (pss_one (ps_ret pe_non)) pss_nil) (pss_one (ps_ret (pe_ifExp (pw_or (pt_cmpR op_ne (pe_ix ix_seq (pv 1) pe_int (fun _ _ => rfl)) pe_str (nomark _)) (pw_or1 (pt_cmpR op_eq (pv 0) pe_str (nomark _)))).pt (pe_callTy call_int_str (by rfl) Z.zint (by rfl) (pa_cons (pv 0) pa_nil)) pe_non))))), (snd_seq (snd_set (snd_if (snd_test (snd_op rv_eqS (snd_slS snd_var so_no (so_part snd_int)) snd_str)) (snd_slS snd_var (so_part snd_int) so_no) snd_var)) (snd_seq (snd_ifS (snd_or (snd_not (snd_test (snd_chain (rv_ii0 (f := fun i j => .bool (decide (i ≤ j))) fun _ _ _ => Dq.bl _) (rv_ii0 (f := fun i j => .bool (decide (i ≤ j))) fun _ _ _ => Dq.bl _) snd_int (snd_cb rc_len (snd_cons snd_var snd_nil)) snd_int))) (snd_test (snd_op rv_neD (snd_l (snd_lc (si_str snd_var) sg_name gin_name (snd_test (snd_op rv_notInS snd_var snd_str)) snd_var)) (snd_l (snd_lst snd_nil))))) (snd_ret snd_non) snd_next) (snd_ret (snd_if (snd_or (snd_test (snd_op rv_neS (snd_op rv_ix snd_var snd_int) snd_str)) (snd_test (snd_op rv_eqS snd_var snd_str))) (snd_cb rc_intS (snd_cons snd_var snd_nil)) snd_non))))⟩
abbrev s_law_due_led : Stmt := top 33
theorem sc_law_due_led : FnScope ["way", "x", "word", "rest"] ["way", "x"] (defScope s_law_due_led) := ⟨rfl, rfl, rfl, by decide +kernel, rfl, by decide +kernel, by decide +kernel⟩
def m_law_due_led  : Ws := (seqW (setW 2 (opW ixF (varW 0) (conW (.int 0)))) (seqW (iffW (testW (opW eqSF (varW 2) (conW (.str "list")))) (retW (getW1 (dictEnW (opW ixF (varW 0) (conW (.int 1)))) (varW 1))) nxtW) (seqW (iffW (testW (opW eqSF (varW 2) (conW (.str "turned")))) (retW (opW (iiF (fun _ _ => True) fun i j => .int (i - j)) (conW (.int 0)) (varW 1))) nxtW) (seqW (iffW (testW (opW inTF (varW 2) (tupW (consW (conW (.str "plus")) (consW (conW (.str "times")) nilW))))) (retW (ifW (testW (opW eqSF (varW 2) (conW (.str "plus")))) (cbW sumF (consW (lW (lstW (consW (varW 1) (consW (opW ixF (varW 0) (conW (.int 1))) nilW)))) nilW)) (opW (iiF CMul fun i j => .int (i * j)) (varW 1) (opW ixF (varW 0) (conW (.int 1)))))) nxtW) (seqW (setW 3 (opW (iiF (fun _ j => j ≠ 0) fun i j => .int (i.fmod j)) (cbW intIF (consW (varW 1) nilW)) (opW ixF (varW 0) (conW (.int 1))))) (retW (ifW (testW (opW eqSF (varW 2) (conW (.str "rest")))) (varW 3) (opW (iiF CDivN fun i j => .int (i.fdiv j)) (cbW intIF (consW (opW (iiF (fun _ _ => True) fun i j => .int (i - j)) (varW 1) (varW 3)) nilW)) (opW ixF (varW 0) (conW (.int 1)))))))))))
theorem ok_law_due_led  {f : Addr} {fd : FuncData} {b : BP} (Z : Nones mg)   (F : L2.Fun K "_law_due_led" "_law_due_led" s_law_due_led f fd) : GFn P w K mg base CX0 1 f fd ["way", "x"] (spD K b 2 (bodyW 4 (m_law_due_led ))) := by

  refine def_ok F sc_law_due_led ?_
  intro cdv A o s H E rm
  exact ⟨_, (pss_cons (ps_set (i := 2) sc_law_due_led.nd rfl (by first | exact Or.inl rfl | exact Or.inr rfl) (pe_ix ix_seq (pv 0) pe_int (fun _ _ => rfl))) (pss_cons (ps_if (pt_cmpR op_eq (pv 2) pe_str (nomark _)) (pss_one (ps_ret (pe_dget1 rm.u1 (pe_dictEnumT rfl (by rfl) Z.zdict (by rfl) Z.zenumerate (pa_cons (pe_ix ix_seq (pv 0) pe_int (fun _ _ => rfl)) pa_nil)) (pv 1) ⟨rfl, rfl, rfl, rfl⟩))) pss_nil) (pss_cons (ps_if (pt_cmpR op_eq (pv 2) pe_str (nomark _)) (pss_one (ps_ret (pe_op op_sub pe_int (pv 1)))) pss_nil) (pss_cons (ps_if (pt_cmpR (op_inT rm.u65) (pv 2) (pe_tupZ (pa_cons pe_str (pa_cons pe_str pa_nil))) (by rfl)) (pss_one (ps_ret (pe_ifExp (pt_cmpR op_eq (pv 2) pe_str (nomark _)) (pe_callB (cr_sum rfl) (by rfl) Z.zsum (by rfl) (pa_cons (pe_lst (pa_cons (pv 1) (pa_cons (pe_ix ix_seq (pv 0) pe_int (fun _ _ => rfl)) pa_nil))) pa_nil)) (pe_op op_mul (pv 1) (pe_ix ix_seq (pv 0) pe_int (fun _ _ => rfl)))))) pss_nil) (pss_cons (ps_set (i := 3) sc_law_due_led.nd rfl (by first | exact Or.inl rfl | exact Or.inr rfl) (pe_op op_modN (pe_callTy call_int1 (by rfl) Z.zint (by rfl) (pa_cons (pv 1) pa_nil)) (pe_ix ix_seq (pv 0) pe_int (fun _ _ => rfl)))) (pss_one (ps_ret (pe_ifExp (pt_cmpR op_eq (pv 2) pe_str (nomark _)) (pv 3) (pe_op op_fdivN (pe_callTy call_int1 (by rfl) Z.zint (by rfl) (pa_cons (pe_op op_sub (pv 1) (pv 3)) pa_nil)) (pe_ix ix_seq (pv 0) pe_int (fun _ _ => rfl))))))))))), (snd_seq (snd_set (snd_op rv_ix snd_var snd_int)) (snd_seq (snd_ifS (snd_test (snd_op rv_eqS snd_var snd_str)) (snd_ret (snd_get1 (snd_dictEn (snd_op rv_ix snd_var snd_int)) snd_var)) snd_next) (snd_seq (snd_ifS (snd_test (snd_op rv_eqS snd_var snd_str)) (snd_ret (snd_op (rv_ii0 (f := fun i j => .int (i - j)) fun _ _ _ => Dq.int _) snd_int snd_var)) snd_next) (snd_seq (snd_ifS (snd_test (snd_op rv_inT snd_var (snd_tup (snd_cons snd_str (snd_cons snd_str snd_nil))))) (snd_ret (snd_if (snd_test (snd_op rv_eqS snd_var snd_str)) (snd_cb rc_sum (snd_cons (snd_l (snd_lst (snd_cons snd_var (snd_cons (snd_op rv_ix snd_var snd_int) snd_nil)))) snd_nil)) (snd_op (rv_ii (C := CMul) (f := fun i j => .int (i * j)) fun _ _ _ => Dq.int _) snd_var (snd_op rv_ix snd_var snd_int)))) snd_next) (snd_seq (snd_set (snd_op (rv_ii (C := (fun _ j => j ≠ 0)) (f := fun i j => .int (i.fmod j)) fun _ _ _ => Dq.int _) (snd_cb rc_intI (snd_cons snd_var snd_nil)) (snd_op rv_ix snd_var snd_int))) (snd_ret (snd_if (snd_test (snd_op rv_eqS snd_var snd_str)) snd_var (snd_op (rv_ii (C := CDivN) (f := fun i j => .int (i.fdiv j)) fun _ _ _ => Dq.int _) (snd_cb rc_intI (snd_cons (snd_op (rv_ii0 (f := fun i j => .int (i - j)) fun _ _ _ => Dq.int _) snd_var snd_var) snd_nil)) (snd_op rv_ix snd_var snd_int)))))))))⟩
abbrev s_law_is_way_right : Stmt := top 34
theorem sc_law_is_way_right : FnScope ["bag", "way", "length", "x", "n"] ["bag", "way"] (defScope s_law_is_way_right) := ⟨rfl, rfl, rfl, by decide +kernel, rfl, by decide +kernel, by decide +kernel⟩
def m_law_is_way_right (F_law_take : Fm) (F_law_alike : Fm) (F_law_due_led : Fm) (Fled : Fm) : Ws := (seqW (setW 2 (ifW (testW (opW eqSF (opW ixF (varW 1) (conW (.int 0))) (conW (.str "list")))) (cbW lenF (consW (opW ixF (varW 1) (conW (.int 1))) nilW)) (conW (.int 3)))) (seqW (forW (itLW (frzW (lstW (consW (conW (.int 0)) (consW (conW (.int 1)) (consW (negW (conW (.int 1))) (consW (opW (iiF (fun _ _ => True) fun i j => .int (i - j)) (varW 2) (conW (.int 1))) (consW (varW 2) (consW (opW (iiF (fun _ _ => True) fun i j => .int (i - j)) (callW 2 F_law_take (consW (varW 0) (consW (conW (.int 2001)) nilW))) (conW (.int 1000))) (consW (opW (iiF (fun _ _ => True) fun i j => .int (i - j)) (opW (iiF (fun _ _ => True) fun i j => .int (i - j)) (opW (iiF CPow fun i j => .int (i ^ j.toNat)) (conW (.int 10)) (conW (.int 9))) (conW (.int 1))) (callW 2 F_law_take (consW (varW 0) (consW (conW (.int 9)) nilW)))) (consW (opW (iiF (fun _ _ => True) fun i j => .int (i - j)) (conW (.int 7)) (opW (iiF CPow fun i j => .int (i ^ j.toNat)) (conW (.int 10)) (conW (.int 9)))) nilW))))))))))) (gnW 3) (seqW (iffW (notW (testW (callW 2 F_law_alike (consW (callW 2 Fled (consW (varW 1) (consW (varW 3) nilW))) (consW (callW 2 F_law_due_led (consW (varW 1) (consW (varW 3) nilW))) nilW))))) (retW (conW (.bool false))) nxtW) (seqW (setW 4 (ifW (testW (opW inTF (opW ixF (varW 1) (conW (.int 0))) (tupW (consW (conW (.str "plus")) (consW (conW (.str "times")) nilW))))) (opW ixF (varW 1) (conW (.int 1))) (conW (.int 1)))) (seqW (iffW (orW (testW (opW neF (callW 2 Fled (consW (tupW (consW (conW (.str "plus")) (consW (negW (varW 4)) nilW))) (consW (callW 2 Fled (consW (tupW (consW (conW (.str "plus")) (consW (varW 4) nilW))) (consW (varW 3) nilW))) nilW))) (varW 3))) (testW (opW neF (callW 2 Fled (consW (tupW (consW (conW (.str "turned")) nilW)) (consW (callW 2 Fled (consW (tupW (consW (conW (.str "turned")) nilW)) (consW (varW 3) nilW))) nilW))) (varW 3)))) (retW (conW (.bool false))) nxtW) (seqW (iffW (andW (testW (chainW (iiF (fun _ _ => True) fun i j => .bool (decide (i < j))) (iiF (fun _ _ => True) fun i j => .bool (decide (i ≤ j))) (conW (.int 0)) (varW 4) (conW (.int 1000)))) (testW (opW neF (callW 2 Fled (consW (tupW (consW (conW (.str "over")) (consW (varW 4) nilW))) (consW (callW 2 Fled (consW (tupW (consW (conW (.str "times")) (consW (varW 4) nilW))) (consW (varW 3) nilW))) nilW))) (varW 3)))) (retW (conW (.bool false))) nxtW) (iffW (andW (testW (chainW (iiF (fun _ _ => True) fun i j => .bool (decide (i < j))) (iiF (fun _ _ => True) fun i j => .bool (decide (i ≤ j))) (conW (.int 0)) (varW 4) (conW (.int 1000)))) (testW (opW neF (opW (iiF (fun _ _ => True) fun i j => .int (i + j)) (opW (iiF CMul fun i j => .int (i * j)) (callW 2 Fled (consW (tupW (consW (conW (.str "over")) (consW (varW 4) nilW))) (consW (varW 3) nilW))) (varW 4)) (callW 2 Fled (consW (tupW (consW (conW (.str "rest")) (consW (varW 4) nilW))) (consW (varW 3) nilW)))) (varW 3)))) (retW (conW (.bool false))) nxtW)))))) (retW (conW (.bool true)))))
theorem ok_law_is_way_right (F_law_take : Fm) (F_law_alike : Fm) (F_law_due_led : Fm) (Fled : Fm) {f : Addr} {fd : FuncData} {b : BP} (Z : Nones mg)  {f_law_take : Addr} {fd_law_take : FuncData} (D_law_take : Dfn P w K mg base 1 f_law_take fd_law_take "_law_take" ["bag", "many"] (spD K b 2 F_law_take)) {f_law_alike : Addr} {fd_law_alike : FuncData} (D_law_alike : Dfn P w K mg base 1 f_law_alike fd_law_alike "_law_alike" ["found", "due"] (spD K b 2 F_law_alike)) {f_law_due_led : Addr} {fd_law_due_led : FuncData} (D_law_due_led : Dfn P w K mg base 1 f_law_due_led fd_law_due_led "_law_due_led" ["way", "x"] (spD K b 2 F_law_due_led)) {fled : Addr} {fdled : FuncData} (Dled : Dfn P w K mg base 1 fled fdled "led" ["way", "x"] (spD K b 2 Fled)) (F : L2.Fun K "_law_is_way_right" "_law_is_way_right" s_law_is_way_right f fd) : GFn P w K mg base CX0 2 f fd ["bag", "way"] (spD K b 2 (bodyW 5 (m_law_is_way_right F_law_take F_law_alike F_law_due_led Fled))) := by
  have D_law_takele : 1 ≤ 1 := by decide
  have D_law_alikele : 1 ≤ 1 := by decide
  have D_law_due_ledle : 1 ≤ 1 := by decide
  have Dledle : 1 ≤ 1 := by decide
  refine def_ok F sc_law_is_way_right ?_
  intro cdv A o s H E rm
  exact ⟨_, (pss_cons (ps_set (i := 2) sc_law_is_way_right.nd rfl (by first | exact Or.inl rfl | exact Or.inr rfl) (pe_ifExp (pt_cmpR op_eq (pe_ix ix_seq (pv 1) pe_int (fun _ _ => rfl)) pe_str (nomark _)) (pe_callB call_len (by rfl) Z.zlen (by rfl) (pa_cons (pe_ix ix_seq (pv 1) pe_int (fun _ _ => rfl)) pa_nil)) pe_int)) (pss_cons (ps_for PassesOwn.leaving rfl (pi_list (pe_lst (pa_cons pe_int (pa_cons pe_int (pa_cons (pe_un un_neg pe_int) (pa_cons (pe_op op_sub (pv 2) pe_int) (pa_cons (pv 2) (pa_cons (pe_op op_sub (pe_g (D_law_take.gfn.mono D_law_takele) rm (by rfl) D_law_take.mg D_law_take.kp D_law_take.bi .nil pass0 (pa_cons (pv 0) (pa_cons pe_int pa_nil))) pe_int) (pa_cons (pe_op op_sub (pe_op op_sub (pe_op op_pow pe_int pe_int) pe_int) (pe_g (D_law_take.gfn.mono D_law_takele) rm (by rfl) D_law_take.mg D_law_take.kp D_law_take.bi .nil pass0 (pa_cons (pv 0) (pa_cons pe_int pa_nil)))) (pa_cons (pe_op op_sub pe_int (pe_op op_pow pe_int pe_int)) pa_nil)))))))))) (pg_name (i := 3) sc_law_is_way_right.nd rfl (by first | exact Or.inl rfl | exact Or.inr rfl)) (pss_cons (ps_if (pt_not (pt_val (pe_g (D_law_alike.gfn.mono D_law_alikele) rm (by rfl) D_law_alike.mg D_law_alike.kp D_law_alike.bi .nil pass0 (pa_cons (pe_g (Dled.gfn.mono Dledle) rm (by rfl) Dled.mg Dled.kp Dled.bi .nil pass0 (pa_cons (pv 1) (pa_cons (pv 3) pa_nil))) (pa_cons (pe_g (D_law_due_led.gfn.mono D_law_due_ledle) rm (by rfl) D_law_due_led.mg D_law_due_led.kp D_law_due_led.bi .nil pass0 (pa_cons (pv 1) (pa_cons (pv 3) pa_nil))) pa_nil))))) (pss_one (ps_ret pe_bl)) pss_nil) (pss_cons (ps_set (i := 4) sc_law_is_way_right.nd rfl (by first | exact Or.inl rfl | exact Or.inr rfl) (pe_ifExp (pt_cmpR (op_inT rm.u65) (pe_ix ix_seq (pv 1) pe_int (fun _ _ => rfl)) (pe_tupZ (pa_cons pe_str (pa_cons pe_str pa_nil))) (by rfl)) (pe_ix ix_seq (pv 1) pe_int (fun _ _ => rfl)) pe_int)) (pss_cons (ps_if (pw_or (pt_cmpR (op_neD rm.u64) (pe_g (Dled.gfn.mono Dledle) rm (by rfl) Dled.mg Dled.kp Dled.bi .nil pass0 (pa_cons (pe_tupZ (pa_cons pe_str (pa_cons (pe_un un_neg (pv 4)) pa_nil))) (pa_cons (pe_g (Dled.gfn.mono Dledle) rm (by rfl) Dled.mg Dled.kp Dled.bi .nil pass0 (pa_cons (pe_tupZ (pa_cons pe_str (pa_cons (pv 4) pa_nil))) (pa_cons (pv 3) pa_nil))) pa_nil))) (pv 3) (nomark _)) (pw_or1 (pt_cmpR (op_neD rm.u64) (pe_g (Dled.gfn.mono Dledle) rm (by rfl) Dled.mg Dled.kp Dled.bi .nil pass0 (pa_cons (pe_tupZ (pa_cons pe_str pa_nil)) (pa_cons (pe_g (Dled.gfn.mono Dledle) rm (by rfl) Dled.mg Dled.kp Dled.bi .nil pass0 (pa_cons (pe_tupZ (pa_cons pe_str pa_nil)) (pa_cons (pv 3) pa_nil))) pa_nil))) (pv 3) (nomark _)))).pt (pss_one (ps_ret pe_bl)) pss_nil) (pss_cons (ps_if (pw_and (pt_chain op_lt op_le pe_int (pv 4) pe_int) (pw_and1 (pt_cmpR (op_neD rm.u64) (pe_g (Dled.gfn.mono Dledle) rm (by rfl) Dled.mg Dled.kp Dled.bi .nil pass0 (pa_cons (pe_tupZ (pa_cons pe_str (pa_cons (pv 4) pa_nil))) (pa_cons (pe_g (Dled.gfn.mono Dledle) rm (by rfl) Dled.mg Dled.kp Dled.bi .nil pass0 (pa_cons (pe_tupZ (pa_cons pe_str (pa_cons (pv 4) pa_nil))) (pa_cons (pv 3) pa_nil))) pa_nil))) (pv 3) (nomark _)))).pt (pss_one (ps_ret pe_bl)) pss_nil) (pss_one (ps_if (pw_and (pt_chain op_lt op_le pe_int (pv 4) pe_int) (pw_and1 (pt_cmpR (op_neD rm.u64) (pe_op op_add (pe_op op_mul (pe_g (Dled.gfn.mono Dledle) rm (by rfl) Dled.mg Dled.kp Dled.bi .nil pass0 (pa_cons (pe_tupZ (pa_cons pe_str (pa_cons (pv 4) pa_nil))) (pa_cons (pv 3) pa_nil))) (pv 4)) (pe_g (Dled.gfn.mono Dledle) rm (by rfl) Dled.mg Dled.kp Dled.bi .nil pass0 (pa_cons (pe_tupZ (pa_cons pe_str (pa_cons (pv 4) pa_nil))) (pa_cons (pv 3) pa_nil)))) (pv 3) (nomark _)))).pt (pss_one (ps_ret pe_bl)) pss_nil))))))) (pss_one (ps_ret pe_bl)))), (snd_seq (snd_set (snd_if (snd_test (snd_op rv_eqS (snd_op rv_ix snd_var snd_int) snd_str)) (snd_cb rc_len (snd_cons (snd_op rv_ix snd_var snd_int) snd_nil)) snd_int)) (snd_seq (snd_for (si_list (snd_frz (snd_lst (snd_cons snd_int (snd_cons snd_int (snd_cons (snd_neg snd_int) (snd_cons (snd_op (rv_ii0 (f := fun i j => .int (i - j)) fun _ _ _ => Dq.int _) snd_var snd_int) (snd_cons snd_var (snd_cons (snd_op (rv_ii0 (f := fun i j => .int (i - j)) fun _ _ _ => Dq.int _) (snd_call (snd_cons snd_var (snd_cons snd_int snd_nil))) snd_int) (snd_cons (snd_op (rv_ii0 (f := fun i j => .int (i - j)) fun _ _ _ => Dq.int _) (snd_op (rv_ii0 (f := fun i j => .int (i - j)) fun _ _ _ => Dq.int _) (snd_op (rv_ii (C := CPow) (f := fun i j => .int (i ^ j.toNat)) fun _ _ _ => Dq.int _) snd_int snd_int) snd_int) (snd_call (snd_cons snd_var (snd_cons snd_int snd_nil)))) (snd_cons (snd_op (rv_ii0 (f := fun i j => .int (i - j)) fun _ _ _ => Dq.int _) snd_int (snd_op (rv_ii (C := CPow) (f := fun i j => .int (i ^ j.toNat)) fun _ _ _ => Dq.int _) snd_int snd_int)) snd_nil))))))))))) sg_name (snd_seq (snd_ifS (snd_not (snd_tB (snd_call (snd_cons (snd_call (snd_cons snd_var (snd_cons snd_var snd_nil))) (snd_cons (snd_call (snd_cons snd_var (snd_cons snd_var snd_nil))) snd_nil))))) (snd_ret snd_bl) snd_next) (snd_seq (snd_set (snd_if (snd_test (snd_op rv_inT (snd_op rv_ix snd_var snd_int) (snd_tup (snd_cons snd_str (snd_cons snd_str snd_nil))))) (snd_op rv_ix snd_var snd_int) snd_int)) (snd_seq (snd_ifS (snd_or (snd_test (snd_op rv_neD (snd_call (snd_cons (snd_tup (snd_cons snd_str (snd_cons (snd_neg snd_var) snd_nil))) (snd_cons (snd_call (snd_cons (snd_tup (snd_cons snd_str (snd_cons snd_var snd_nil))) (snd_cons snd_var snd_nil))) snd_nil))) snd_var)) (snd_test (snd_op rv_neD (snd_call (snd_cons (snd_tup (snd_cons snd_str snd_nil)) (snd_cons (snd_call (snd_cons (snd_tup (snd_cons snd_str snd_nil)) (snd_cons snd_var snd_nil))) snd_nil))) snd_var))) (snd_ret snd_bl) snd_next) (snd_seq (snd_ifS (snd_and (snd_test (snd_chain (rv_ii0 (f := fun i j => .bool (decide (i < j))) fun _ _ _ => Dq.bl _) (rv_ii0 (f := fun i j => .bool (decide (i ≤ j))) fun _ _ _ => Dq.bl _) snd_int snd_var snd_int)) (snd_test (snd_op rv_neD (snd_call (snd_cons (snd_tup (snd_cons snd_str (snd_cons snd_var snd_nil))) (snd_cons (snd_call (snd_cons (snd_tup (snd_cons snd_str (snd_cons snd_var snd_nil))) (snd_cons snd_var snd_nil))) snd_nil))) snd_var))) (snd_ret snd_bl) snd_next) (snd_ifS (snd_and (snd_test (snd_chain (rv_ii0 (f := fun i j => .bool (decide (i < j))) fun _ _ _ => Dq.bl _) (rv_ii0 (f := fun i j => .bool (decide (i ≤ j))) fun _ _ _ => Dq.bl _) snd_int snd_var snd_int)) (snd_test (snd_op rv_neD (snd_op (rv_ii0 (f := fun i j => .int (i + j)) fun _ _ _ => Dq.int _) (snd_op (rv_ii (C := CMul) (f := fun i j => .int (i * j)) fun _ _ _ => Dq.int _) (snd_call (snd_cons (snd_tup (snd_cons snd_str (snd_cons snd_var snd_nil))) (snd_cons snd_var snd_nil))) snd_var) (snd_call (snd_cons (snd_tup (snd_cons snd_str (snd_cons snd_var snd_nil))) (snd_cons snd_var snd_nil)))) snd_var))) (snd_ret snd_bl) snd_next)))))) (snd_ret snd_bl)))⟩
abbrev s_law_any_fits : Stmt := top 35
theorem sc_law_any_fits : FnScope ["sort", "thing"] ["sort", "thing"] (defScope s_law_any_fits) := ⟨rfl, rfl, rfl, by decide +kernel, rfl, by decide +kernel, by decide +kernel⟩
def m_law_any_fits (F_law_is_int : Fm) : Ws := (seqW (iffW (testW (isNW (varW 1))) (retW (opW eqSF (opW ixF (varW 0) (conW (.int 0))) (conW (.str "may")))) nxtW) (retW (andVW (callW 1 F_law_is_int (consW (varW 1) nilW)) (orVW (opW neSF (opW ixF (varW 0) (conW (.int 0))) (conW (.str "below"))) (chainW (iiF (fun _ _ => True) fun i j => .bool (decide (i ≤ j))) (iiF (fun _ _ => True) fun i j => .bool (decide (i < j))) (conW (.int 0)) (varW 1) (opW ixF (varW 0) (conW (.int 1))))))))
theorem ok_law_any_fits (F_law_is_int : Fm) {f : Addr} {fd : FuncData} {b : BP} (Z : Nones mg)  {f_law_is_int : Addr} {fd_law_is_int : FuncData} (D_law_is_int : Dfn P w K mg base 1 f_law_is_int fd_law_is_int "_law_is_int" ["thing"] (spD K b 1 F_law_is_int)) (F : L2.Fun K "_law_any_fits" "_law_any_fits" s_law_any_fits f fd) : GFn P w K mg base CX0 2 f fd ["sort", "thing"] (spD K b 2 (bodyW 2 (m_law_any_fits F_law_is_int))) := by
  have D_law_is_intle : 1 ≤ 1 := by decide
  refine def_ok F sc_law_any_fits ?_
  intro cdv A o s H E rm
  exact ⟨_, (pss_cons (ps_if (pt_cmp (pc_isN (pv 1))) (pss_one (ps_ret (pe_cmpR op_eq (pe_ix ix_seq (pv 0) pe_int (fun _ _ => rfl)) pe_str (nomark _)))) pss_nil) (pss_one (ps_ret (pe_and (pe_g (D_law_is_int.gfn.mono D_law_is_intle) rm (by rfl) D_law_is_int.mg D_law_is_int.kp D_law_is_int.bi .nil pass0 (pa_cons (pv 1) pa_nil)) (pe_one (pe_or (pe_cmpR op_ne (pe_ix ix_seq (pv 0) pe_int (fun _ _ => rfl)) pe_str (nomark _)) (pe_one (pe_chain op_le op_lt pe_int (pv 1) (pe_ix ix_seq (pv 0) pe_int (fun _ _ => rfl)))))))))), (snd_seq (snd_ifS (snd_tB (snd_isN snd_var)) (snd_ret (snd_op rv_eqS (snd_op rv_ix snd_var snd_int) snd_str)) snd_next) (snd_ret (snd_andV (snd_call (snd_cons snd_var snd_nil)) (snd_orV (snd_op rv_neS (snd_op rv_ix snd_var snd_int) snd_str) (snd_chain (rv_ii0 (f := fun i j => .bool (decide (i ≤ j))) fun _ _ _ => Dq.bl _) (rv_ii0 (f := fun i j => .bool (decide (i < j))) fun _ _ _ => Dq.bl _) snd_int snd_var (snd_op rv_ix snd_var snd_int))))))⟩
end
end LL

set_option maxHeartbeats 3999999
namespace LL
open PySem PySem.Spec PyProof.Rows L2 GG DD
abbrev s_law_bag : Stmt := top 21
theorem sc_law_bag : FnScope ["script", "cell"] ["script"] (defScope s_law_bag) := ⟨rfl, rfl, rfl, by decide +kernel, rfl, by decide +kernel, by decide +kernel⟩
/-- a new bag: x, itz cells y -/
structure NewBag (H H' : Hp) (x y : Addr) (cs : List Int) : Prop where
  keep : Same H H'
  nx : H x = none
  ny : H y = none
  ne : y ≠ x
  ax : H' x = some (.lst [.int 0, .int 1234567891, .int 0, .ref y])
  ay : H' y = some (.lst (cs.map V.int))
  len : cs.length ≤ 63
  c0 : ∀ z ∈ cs, 0 ≤ z
  nt : ∀ c ps, H' c = some (.tbl ps) → H c = some (.tbl ps)
def spBag (K : PySem.W.Frag) : Sp := fun vs H Q _ => ∃ (a : Addr) (ns : List Int), vs = [.ref a] ∧ SqL K H a (ns.map V.int) ∧ ns.length ≤ 63 ∧ ∀ (x y : Addr) (cs : List Int) (H' : Hp), NewBag H H' x y cs → Q (.ref x) H'
theorem cut_ints {ns : List Int} {lo hi : Option Int} : ∃ ds : List Int, cutV (ns.map V.int) lo hi = ds.map V.int ∧ ds.length ≤ ns.length := by
  refine ⟨(ns.drop (HT.sIx (ns.map V.int).length 0 lo)).take (HT.sIx (ns.map V.int).length (ns.map V.int).length hi - HT.sIx (ns.map V.int).length 0 lo), ?_, ?_⟩
  · unfold cutV
    rw [List.map_take, List.map_drop]
  · rw [List.length_take, List.length_drop]
    omega
theorem upd_upd {H : Hp} {p : Addr} {o u : HO} : upd (upd H p o) p u = upd H p u := by
  funext a
  by_cases e : a = p
  · rw [e, upd_same, upd_same]
  · rw [upd_ne e, upd_ne e, upd_ne e]
section
variable {P : Program} {w : World} {K : PySem.W.Frag} {mg : Str → Option Value} {base : Heap}
theorem ok_law_bag {f : Addr} {fd : FuncData} (Z : Nones mg) (F : L2.Fun K "_law_bag" "_law_bag" s_law_bag f fd) : GFn P w K mg base CX0 1 f fd ["script"] (spBag K) := by
  refine okG F sc_law_bag ?_ ?_
  · rintro vs H Q E ⟨a, ns, rfl, _⟩
    rfl
  rintro cdv A o s H vs Q E rm ⟨a, ns, rfl, hsv0, hnz, k⟩
  refine ⟨_, pss_one (ps_ret (pe_lst (pa_cons pe_int (pa_cons pe_int (pa_cons pe_int (pa_cons (pe_lc (own := [("cell", 1)]) rfl sc_law_bag.nd (pi_list (pe_slice sl_list (pv 0) po_none (po_some pe_int))) (blkOk_by (by show blkC ["script", "cell"] (defScope s_law_bag) _ _ = true; decide +kernel))
    (fun _ _ _ _ _ => (pg_name (i := 1) sc_law_bag.nd rfl (by first | exact Or.inl rfl | exact Or.inr rfl))) (fun _ _ _ _ _ => pts_nil) (fun _ _ _ _ _ => (pe_callB call_abs (by rfl) Z.zabs (by rfl) (pa_cons (pv 1) pa_nil)))) pa_nil)))))), ?_⟩
  obtain ⟨ds, ed, hdz⟩ := cut_ints (ns := ns) (lo := none) (hi := some 63)
  refine ⟨_, rfl, _, rfl, _, _, rfl, hsv0, fun p1 h1 => ?_⟩
  rw [ed]
  refine ⟨p1, rfl, ⟨_, SqL.of upd_same⟩, fun D hD => ?_⟩
  have nD1 : D ≠ p1 := by
    intro z
    rw [z, upd_same] at hD
    cases hD
  have HD : H D = none := by
    rw [upd_ne nD1] at hD
    exact hD
  refine lc_it (walk_list (xs := ds.map V.int)) (fun i H' => ∃ acc : List Int, H' = upd (upd H p1 (.lst (ds.map V.int))) D (.lst (acc.map V.int)) ∧ acc.length = i ∧ ∀ z ∈ acc, 0 ≤ z) ⟨[], rfl, rfl, fun _ z => by cases z⟩ ?_ ?_ ?_
  · rintro i H' _ ⟨acc, rfl, _⟩
    exact SqL.of (by rw [upd_ne nD1.symm]; exact upd_same)
  · rintro i x H' Hx hi ⟨acc, rfl, hlz0, h0⟩ ⟨rfl, hxz⟩
    obtain ⟨n, rfl⟩ : ∃ n, x = V.int n := by
      rw [List.getElem?_map] at hxz
      cases e : ds[i]? with
      | none =>
        rw [e] at hxz
        cases hxz
      | some n =>
        rw [e] at hxz
        exact ⟨n, (Option.some.inj hxz).symm⟩
    refine ⟨rfl, ?_⟩
    unfold tYes
    dsimp only
    rw [if_pos rfl]
    refine ⟨_, rfl, _, rfl, _, upd_same, ?_, acc ++ [if n < 0 then -n else n], ?_, by rw [List.length_append, hlz0]; rfl, ?_⟩
    · rw [List.length_map] at hi ⊢
      rw [hlz0, sizeLine_eq]
      omega
    · rw [upd_upd, List.map_append]
      rfl
    · intro z hzz
      rcases List.mem_append.mp hzz with hzz | hzz
      · exact h0 z hzz
      · obtain rfl := List.mem_singleton.mp hzz
        split <;> omega
  · rintro H' ⟨acc, rfl, hlz0, h0⟩
    refine ⟨by rw [sizeLine_eq]; show 4 ≤ 16777216; omega, fun x hxz => ?_⟩
    have nxD : x ≠ D := by
      intro z
      rw [z, upd_same] at hxz
      cases hxz
    have nx1 : x ≠ p1 := by
      intro z
      rw [upd_ne nxD, z, upd_same] at hxz
      cases hxz
    have Hx : H x = none := by
      rw [upd_ne nxD, upd_ne nx1] at hxz
      exact hxz
    refine k x D acc _ ⟨?_, Hx, HD, nxD.symm, upd_same, by rw [upd_ne nxD.symm]; exact upd_same, ?_, h0, ?_⟩
    · intro c u e
      rw [upd_ne (ne_of_none e Hx), upd_ne (ne_of_none e HD), upd_ne (ne_of_none e h1)]
      exact e
    · rw [hlz0, List.length_map]
      omega
    · intro c ps e
      exact nt_upd (by intro _ z; cases z) c ps (nt_upd (by intro _ z; cases z) c ps (nt_upd (by intro _ z; cases z) c ps e))
end
end LL

set_option maxHeartbeats 3999999
namespace LL
open PySem PySem.Spec PyProof.Rows L2 GG DD
/-- a promise for whatever bag there is -/
def spX (K : PySem.W.Frag) (n : Nat) (f : Fm) : Sp := fun vs H Q E => ∃ b : BP, b.T = [] ∧ spD K b n f vs H Q E
theorem gfn_any {P : Program} {w : World} {K : PySem.W.Frag} {mg : Str → Option Value} {base : Heap} {k : Nat} {f : Addr} {fd : FuncData} {ps : List Str} {n : Nat} {g : Fm}
    (h : ∀ b : BP, b.T = [] → GFn P w K mg base CX0 k f fd ps (spD K b n g)) : GFn P w K mg base CX0 k f fd ps (spX K n g) := by
  constructor
  · rintro vs H Q E ⟨b, ez2, q⟩
    exact (h b ez2).arity vs H Q E q
  · rintro A o s H ar us vs Q E rm e0 bt rvz ⟨b, ez2, q⟩
    exact (h b ez2).go A o s H ar us vs Q E rm e0 bt rvz q
theorem snd_callX {K : PySem.W.Frag} {b : BP} {n : Nat} {f : Fm} {tas : TA} {ms : Wl} (ez2 : b.T = []) (h : SndA K b tas ms) : Snd K b (tCall (spX K n f) [] E0 tas) (callW n f ms) := by
  intro M0 H0 O σ H env r Qa hmz Q k
  refine h M0 H0 O σ H env r _ hmz _ ?_
  rintro vs ws H' f' g rp ⟨hlz0, q⟩
  have r' := r.after f' g
  refine ⟨b, ez2, by rw [List.append_nil, Paired.length rp, hlz0], MO M0 O, ws, Qa, r.mbO, .inl r.mc, r'.domO, g, by rw [List.append_nil]; exact rp, q, ?_⟩
  intro v w H2 f2 g2 r2 q2
  exact k v w H2 (f'.trans f2) g2 r2 q2
def spLaw (K : PySem.W.Frag) : Sp := fun vs H Q _ => ∃ (a : Addr) (ns : List Int), vs = [.ref a] ∧ SqL K H a (ns.map V.int) ∧ ns.length ≤ 63 ∧ (∀ c ps, H c ≠ some (.tbl ps)) ∧ ∀ H', Q (.bl true) H'
abbrev slaw : Stmt := top 36
theorem sclaw : FnScope ["script", "bag", "turn", "sort", "edge", "thing", "schema", "name", "columns", "check", "row", "column", "words", "word"] ["script"] (defScope slaw) := ⟨rfl, rfl, rfl, by decide +kernel, rfl, by decide +kernel, by decide +kernel⟩
def mlaw (F_law_is_way_right : Fm) (F_law_any_way : Fm) (F_law_any_sort : Fm) (F_law_odd : Fm) (F_law_alike : Fm) (F_law_any_fits : Fm) (Ffits_sort : Fm) (F_law_schema : Fm) (F_law_some : Fm) (F_law_row_fits : Fm) (Ffits_row : Fm) (F_law_take : Fm) (F_law_integer_in : Fm) (Finteger_in : Fm) : Ws := (seqW (forW (itRW (conW (.int 6))) (gnW 2) (seqW (iffW (notW (testW (callW 2 F_law_is_way_right (consW (varW 1) (consW (callW 1 F_law_any_way (consW (varW 1) nilW)) nilW))))) (retW (conW (.bool false))) nxtW) (seqW (setW 3 (callW 1 F_law_any_sort (consW (varW 1) nilW))) (seqW (setW 4 (ifW (testW (opW eqSF (opW ixF (varW 3) (conW (.int 0))) (conW (.str "below")))) (opW ixF (varW 3) (conW (.int 1))) (conW (.int 4)))) (forW (itTW (tupW (consW (conW .none) (consW (conW (.bool true)) (consW (conW (.bool false)) (consW (conW (.int 0)) (consW (negW (conW (.int 1))) (consW (varW 4) (consW (opW (iiF (fun _ _ => True) fun i j => .int (i - j)) (varW 4) (conW (.int 1))) (consW (opW (iiF CPow fun i j => .int (i ^ j.toNat)) (conW (.int 10)) (conW (.int 39))) (consW (conW (.str "0")) (consW (tupW nilW) (consW (callW 1 F_law_odd (consW (varW 1) nilW)) (consW errW nilW)))))))))))))) (gnW 5) (iffW (notW (testW (callW 2 F_law_alike (consW (callW 2 Ffits_sort (consW (varW 3) (consW (varW 5) nilW))) (consW (callW 2 F_law_any_fits (consW (varW 3) (consW (varW 5) nilW))) nilW))))) (retW (conW (.bool false))) nxtW)))))) (seqW (setW 6 (callW 2 F_law_schema (consW (varW 1) (consW (conW (.int 3)) nilW)))) (seqW (forW (itTW (opW ixF (varW 6) (conW (.int 0)))) (gtupW 2 (gconsW (gnW 7) (gconsW (gtupW 2 (gconsW (gnW 8) (gconsW (gnW 9) gnilW))) gnilW))) (seqW (setW 10 (cbW tupF (consW (lW (lcompW [11] (itTW (varW 8)) (gnW 11) yesW (callW 2 F_law_some (consW (varW 1) (consW (lW (lstW (consW (conW (.int 0)) (consW (conW (.int 1)) (consW (negW (conW (.int 1))) (consW (conW (.int 4)) (consW (conW .none) (consW (conW (.int 12)) nilW)))))))) nilW))))) nilW))) (iffW (notW (testW (callW 2 F_law_alike (consW (callW 3 Ffits_row (consW (varW 6) (consW (varW 7) (consW (varW 10) nilW)))) (consW (callW 3 F_law_row_fits (consW (varW 6) (consW (varW 7) (consW (varW 10) nilW)))) nilW))))) (retW (conW (.bool false))) nxtW))) (seqW (setFW 12 (lstW (consW (conW (.str "0")) (consW (conW (.str "-0")) (consW (conW (.str "7")) (consW (conW (.str "-7")) (consW (conW (.str "07")) (consW (conW (.str "+7")) (consW (conW (.str "-")) (consW (conW (.str "")) (consW (conW (.str "1_0")) (consW (conW (.str " 1")) (consW (conW (.str "x")) (consW (opW repSF (conW (.str "9")) (conW (.int 200))) (consW (opW catSF (conW (.str "1")) (opW repSF (conW (.str "0")) (conW (.int 200)))) (consW (opW catSF (conW (.str "-")) (opW repSF (conW (.str "9")) (conW (.int 200)))) nilW)))))))))))))))) (seqW (forW (itLW (frzW (opF catF (varW 12) (lW (lstW (consW (conW (.str "1.0")) (consW (conW (.str "--5")) (consW (conW (.str "5-")) (consW (conW (.str "-07")) (consW (conW (.str "7
")) (consW (cbW strIF (consW (opW (iiF (fun _ _ => True) fun i j => .int (i - j)) (callW 2 F_law_take (consW (varW 1) (consW (opW (iiF CPow fun i j => .int (i ^ j.toNat)) (conW (.int 10)) (conW (.int 9))) nilW))) (opW (iiF CMul fun i j => .int (i * j)) (conW (.int 5)) (opW (iiF CPow fun i j => .int (i ^ j.toNat)) (conW (.int 10)) (conW (.int 8))))) nilW)) nilW))))))))))) (gnW 13) (iffW (notW (testW (callW 2 F_law_alike (consW (callW 1 Finteger_in (consW (varW 13) nilW)) (consW (callW 1 F_law_integer_in (consW (varW 13) nilW)) nilW))))) (retW (conW (.bool false))) nxtW)) (retW (conW (.bool true))))))))
def envlaw : En := [E.un, E.v W.bag, E.un, E.un, E.un, E.un, E.un, E.un, E.un, E.un, E.un, E.un, E.un, E.un]
section
variable {P : Program} {w : World} {K : PySem.W.Frag} {mg : Str → Option Value} {base : Heap}
theorem oklaw (F_law_is_way_right : Fm) (F_law_any_way : Fm) (F_law_any_sort : Fm) (F_law_odd : Fm) (F_law_alike : Fm) (F_law_any_fits : Fm) (Ffits_sort : Fm) (F_law_schema : Fm) (F_law_some : Fm) (F_law_row_fits : Fm) (Ffits_row : Fm) (F_law_take : Fm) (F_law_integer_in : Fm) (Finteger_in : Fm) {f : Addr} {fd : FuncData} (Z : Nones mg) {CN fN : Addr} {fdN : FuncData} (ZNoCommand : Err P w K mg base "NoCommand" CN fN fdN)
    {f_law_bag : Addr} {fd_law_bag : FuncData} (D_law_bag : Dfn P w K mg base 1 f_law_bag fd_law_bag "_law_bag" ["script"] (spBag K))
    {f_law_is_way_right : Addr} {fd_law_is_way_right : FuncData} (D_law_is_way_right : Dfn P w K mg base 2 f_law_is_way_right fd_law_is_way_right "_law_is_way_right" ["bag", "way"] (spX K 2 F_law_is_way_right))
    {f_law_any_way : Addr} {fd_law_any_way : FuncData} (D_law_any_way : Dfn P w K mg base 3 f_law_any_way fd_law_any_way "_law_any_way" ["bag"] (spX K 1 F_law_any_way))
    {f_law_any_sort : Addr} {fd_law_any_sort : FuncData} (D_law_any_sort : Dfn P w K mg base 4 f_law_any_sort fd_law_any_sort "_law_any_sort" ["bag"] (spX K 1 F_law_any_sort))
    {f_law_odd : Addr} {fd_law_odd : FuncData} (D_law_odd : Dfn P w K mg base 3 f_law_odd fd_law_odd "_law_odd" ["bag"] (spX K 1 F_law_odd))
    {f_law_alike : Addr} {fd_law_alike : FuncData} (D_law_alike : Dfn P w K mg base 1 f_law_alike fd_law_alike "_law_alike" ["found", "due"] (spX K 2 F_law_alike))
    {f_law_any_fits : Addr} {fd_law_any_fits : FuncData} (D_law_any_fits : Dfn P w K mg base 2 f_law_any_fits fd_law_any_fits "_law_any_fits" ["sort", "thing"] (spX K 2 F_law_any_fits))
    {ffits_sort : Addr} {fdfits_sort : FuncData} (Dfits_sort : Dfn P w K mg base 2 ffits_sort fdfits_sort "fits_sort" ["sort", "thing"] (spX K 2 Ffits_sort))
    {f_law_schema : Addr} {fd_law_schema : FuncData} (D_law_schema : Dfn P w K mg base 4 f_law_schema fd_law_schema "_law_schema" ["bag", "most"] (spX K 2 F_law_schema))
    {f_law_some : Addr} {fd_law_some : FuncData} (D_law_some : Dfn P w K mg base 2 f_law_some fd_law_some "_law_some" ["bag", "things"] (spX K 2 F_law_some))
    {f_law_row_fits : Addr} {fd_law_row_fits : FuncData} (D_law_row_fits : Dfn P w K mg base 2 f_law_row_fits fd_law_row_fits "_law_row_fits" ["schema", "table", "row"] (spX K 3 F_law_row_fits))
    {ffits_row : Addr} {fdfits_row : FuncData} (Dfits_row : Dfn P w K mg base 4 ffits_row fdfits_row "fits_row" ["schema", "table", "row"] (spX K 3 Ffits_row))
    {f_law_take : Addr} {fd_law_take : FuncData} (D_law_take : Dfn P w K mg base 1 f_law_take fd_law_take "_law_take" ["bag", "many"] (spX K 2 F_law_take))
    {f_law_integer_in : Addr} {fd_law_integer_in : FuncData} (D_law_integer_in : Dfn P w K mg base 1 f_law_integer_in fd_law_integer_in "_law_integer_in" ["word"] (spX K 1 F_law_integer_in))
    {finteger_in : Addr} {fdinteger_in : FuncData} (Dinteger_in : Dfn P w K mg base 1 finteger_in fdinteger_in "integer_in" ["word"] (spX K 1 Finteger_in))
    (F : L2.Fun K "law" "law" slaw f fd) (math : mlaw F_law_is_way_right F_law_any_way F_law_any_sort F_law_odd F_law_alike F_law_any_fits Ffits_sort F_law_schema F_law_some F_law_row_fits Ffits_row F_law_take F_law_integer_in Finteger_in envlaw (outV fun w => w = .d (.bool true))) : GFn P w K mg base CX0 6 f fd ["script"] (spLaw K) := by
  have D_law_is_way_rightle : 2 ≤ 5 := by decide
  have D_law_any_wayle : 3 ≤ 5 := by decide
  have D_law_any_sortle : 4 ≤ 5 := by decide
  have D_law_oddle : 3 ≤ 5 := by decide
  have D_law_alikele : 1 ≤ 5 := by decide
  have D_law_any_fitsle : 2 ≤ 5 := by decide
  have Dfits_sortle : 2 ≤ 5 := by decide
  have D_law_schemale : 4 ≤ 5 := by decide
  have D_law_somele : 2 ≤ 5 := by decide
  have D_law_row_fitsle : 2 ≤ 5 := by decide
  have Dfits_rowle : 4 ≤ 5 := by decide
  have D_law_takele : 1 ≤ 5 := by decide
  have D_law_integer_inle : 1 ≤ 5 := by decide
  have Dinteger_inle : 1 ≤ 5 := by decide
  have D_law_bagle : 1 ≤ 5 := by decide
  refine okG F sclaw ?_ ?_
  · rintro vs H Q E ⟨a, ns, rfl, _⟩
    rfl
  rintro cdv A o s H vs Q E rm ⟨a, ns, rfl, hsv0, hnz, only, k⟩
  obtain ⟨t, hpz, hsnd⟩ : ∃ t, PSs (cxOf CX0 P w K mg base ["script", "bag", "turn", "sort", "edge", "thing", "schema", "name", "columns", "check", "row", "column", "words", "word"] "law" (defScope slaw) f cdv A o s H E) (defBody slaw).tail t ∧ ∀ b : BP, b.T = [] → SndS K b t (mlaw F_law_is_way_right F_law_any_way F_law_any_sort F_law_odd F_law_alike F_law_any_fits Ffits_sort F_law_schema F_law_some F_law_row_fits Ffits_row F_law_take F_law_integer_in Finteger_in) :=
    ⟨_, (pss_cons (ps_for PassesOwn.leaving rfl (pi_range1 (by rfl) Z.zrange (pa_cons pe_int pa_nil)) (pg_name (i := 2) sclaw.nd rfl (by first | exact Or.inl rfl | exact Or.inr rfl)) (pss_cons (ps_if (pt_not (pt_val (pe_g (D_law_is_way_right.gfn.mono D_law_is_way_rightle) rm (by rfl) D_law_is_way_right.mg D_law_is_way_right.kp D_law_is_way_right.bi .nil pass0 (pa_cons (pv 1) (pa_cons (pe_g (D_law_any_way.gfn.mono D_law_any_wayle) rm (by rfl) D_law_any_way.mg D_law_any_way.kp D_law_any_way.bi .nil pass0 (pa_cons (pv 1) pa_nil)) pa_nil))))) (pss_one (ps_ret pe_bl)) pss_nil) (pss_cons (ps_set (i := 3) sclaw.nd rfl (by first | exact Or.inl rfl | exact Or.inr rfl) (pe_g (D_law_any_sort.gfn.mono D_law_any_sortle) rm (by rfl) D_law_any_sort.mg D_law_any_sort.kp D_law_any_sort.bi .nil pass0 (pa_cons (pv 1) pa_nil))) (pss_cons (ps_set (i := 4) sclaw.nd rfl (by first | exact Or.inl rfl | exact Or.inr rfl) (pe_ifExp (pt_cmpR op_eq (pe_ix ix_seq (pv 3) pe_int (fun _ _ => rfl)) pe_str (nomark _)) (pe_ix ix_seq (pv 3) pe_int (fun _ _ => rfl)) pe_int)) (pss_one (ps_for PassesOwn.leaving rfl (pi_tup (pe_tupZ (pa_cons pe_non (pa_cons pe_bl (pa_cons pe_bl (pa_cons pe_int (pa_cons (pe_un un_neg pe_int) (pa_cons (pv 4) (pa_cons (pe_op op_sub (pv 4) pe_int) (pa_cons (pe_op op_pow pe_int pe_int) (pa_cons pe_str (pa_cons (pe_tupZ pa_nil) (pa_cons (pe_g (D_law_odd.gfn.mono D_law_oddle) rm (by rfl) D_law_odd.mg D_law_odd.kp D_law_odd.bi .nil pass0 (pa_cons (pv 1) pa_nil)) (pa_cons (pe_err0 ZNoCommand.T ZNoCommand.iC ZNoCommand.tI ZNoCommand.gfn (rm.mono (by decide)) ZNoCommand.bi pass0 (by rfl) ZNoCommand.mg) pa_nil)))))))))))))) (pg_name (i := 5) sclaw.nd rfl (by first | exact Or.inl rfl | exact Or.inr rfl)) (pss_one (ps_if (pt_not (pt_val (pe_g (D_law_alike.gfn.mono D_law_alikele) rm (by rfl) D_law_alike.mg D_law_alike.kp D_law_alike.bi .nil pass0 (pa_cons (pe_g (Dfits_sort.gfn.mono Dfits_sortle) rm (by rfl) Dfits_sort.mg Dfits_sort.kp Dfits_sort.bi .nil pass0 (pa_cons (pv 3) (pa_cons (pv 5) pa_nil))) (pa_cons (pe_g (D_law_any_fits.gfn.mono D_law_any_fitsle) rm (by rfl) D_law_any_fits.mg D_law_any_fits.kp D_law_any_fits.bi .nil pass0 (pa_cons (pv 3) (pa_cons (pv 5) pa_nil))) pa_nil))))) (pss_one (ps_ret pe_bl)) pss_nil)))))))) (pss_cons (ps_set (i := 6) sclaw.nd rfl (by first | exact Or.inl rfl | exact Or.inr rfl) (pe_g (D_law_schema.gfn.mono D_law_schemale) rm (by rfl) D_law_schema.mg D_law_schema.kp D_law_schema.bi .nil pass0 (pa_cons (pv 1) (pa_cons pe_int pa_nil)))) (pss_cons (ps_for PassesOwn.leaving rfl (pi_tup (pe_ix ix_seq (pv 6) pe_int (fun _ _ => rfl))) (pg_tup rfl (pgs_cons (pg_name (i := 7) sclaw.nd rfl (by first | exact Or.inl rfl | exact Or.inr rfl)) (pgs_cons (pg_tup rfl (pgs_cons (pg_name (i := 8) sclaw.nd rfl (by first | exact Or.inl rfl | exact Or.inr rfl)) (pgs_cons (pg_name (i := 9) sclaw.nd rfl (by first | exact Or.inl rfl | exact Or.inr rfl)) pgs_nil))) pgs_nil))) (pss_cons (ps_set (i := 10) sclaw.nd rfl (by first | exact Or.inl rfl | exact Or.inr rfl) (pe_callTy call_tupZ (by rfl) Z.ztuple (by rfl) (pa_cons (pe_lc (own := [("column", 11)]) rfl sclaw.nd (pi_tup (pv 8)) (blkOk_by (by show blkC ["script", "bag", "turn", "sort", "edge", "thing", "schema", "name", "columns", "check", "row", "column", "words", "word"] (defScope slaw) _ _ = true; decide +kernel)) (fun _ _ _ _ _ => (pg_name (i := 11) sclaw.nd rfl (by first | exact Or.inl rfl | exact Or.inr rfl))) (fun _ _ _ _ _ => pts_nil) (fun _ _ _ _ _ => (pe_g (D_law_some.gfn.mono D_law_somele) rm (by rfl) D_law_some.mg D_law_some.kp D_law_some.bi .nil pass0 (pa_cons (pv 1) (pa_cons (pe_lst (pa_cons pe_int (pa_cons pe_int (pa_cons (pe_un un_neg pe_int) (pa_cons pe_int (pa_cons pe_non (pa_cons pe_int pa_nil))))))) pa_nil))))) pa_nil))) (pss_one (ps_if (pt_not (pt_val (pe_g (D_law_alike.gfn.mono D_law_alikele) rm (by rfl) D_law_alike.mg D_law_alike.kp D_law_alike.bi .nil pass0 (pa_cons (pe_g (Dfits_row.gfn.mono Dfits_rowle) rm (by rfl) Dfits_row.mg Dfits_row.kp Dfits_row.bi .nil pass0 (pa_cons (pv 6) (pa_cons (pv 7) (pa_cons (pv 10) pa_nil)))) (pa_cons (pe_g (D_law_row_fits.gfn.mono D_law_row_fitsle) rm (by rfl) D_law_row_fits.mg D_law_row_fits.kp D_law_row_fits.bi .nil pass0 (pa_cons (pv 6) (pa_cons (pv 7) (pa_cons (pv 10) pa_nil)))) pa_nil))))) (pss_one (ps_ret pe_bl)) pss_nil)))) (pss_cons (ps_set (i := 12) sclaw.nd rfl (by first | exact Or.inl rfl | exact Or.inr rfl) (pe_lst (pa_cons pe_str (pa_cons pe_str (pa_cons pe_str (pa_cons pe_str (pa_cons pe_str (pa_cons pe_str (pa_cons pe_str (pa_cons pe_str (pa_cons pe_str (pa_cons pe_str (pa_cons pe_str (pa_cons (pe_op op_repS pe_str pe_int) (pa_cons (pe_op op_add_str pe_str (pe_op op_repS pe_str pe_int)) (pa_cons (pe_op op_add_str pe_str (pe_op op_repS pe_str pe_int)) pa_nil)))))))))))))))) (pss_cons (ps_for PassesOwn.leaving rfl (pi_list (pe_op op_cat (pv 12) (pe_lst (pa_cons pe_str (pa_cons pe_str (pa_cons pe_str (pa_cons pe_str (pa_cons pe_str (pa_cons (pe_callTy call_str_int (by rfl) Z.zstr (by rfl) (pa_cons (pe_op op_sub (pe_g (D_law_take.gfn.mono D_law_takele) rm (by rfl) D_law_take.mg D_law_take.kp D_law_take.bi .nil pass0 (pa_cons (pv 1) (pa_cons (pe_op op_pow pe_int pe_int) pa_nil))) (pe_op op_mul pe_int (pe_op op_pow pe_int pe_int))) pa_nil)) pa_nil))))))))) (pg_name (i := 13) sclaw.nd rfl (by first | exact Or.inl rfl | exact Or.inr rfl)) (pss_one (ps_if (pt_not (pt_val (pe_g (D_law_alike.gfn.mono D_law_alikele) rm (by rfl) D_law_alike.mg D_law_alike.kp D_law_alike.bi .nil pass0 (pa_cons (pe_g (Dinteger_in.gfn.mono Dinteger_inle) rm (by rfl) Dinteger_in.mg Dinteger_in.kp Dinteger_in.bi .nil pass0 (pa_cons (pv 13) pa_nil)) (pa_cons (pe_g (D_law_integer_in.gfn.mono D_law_integer_inle) rm (by rfl) D_law_integer_in.mg D_law_integer_in.kp D_law_integer_in.bi .nil pass0 (pa_cons (pv 13) pa_nil)) pa_nil))))) (pss_one (ps_ret pe_bl)) pss_nil))) (pss_one (ps_ret pe_bl))))))), fun b hTb => (snd_seq (snd_for (si_range snd_int) sg_name (snd_seq (snd_ifS (snd_not (snd_tB (snd_callX hTb (snd_cons snd_var (snd_cons (snd_callX hTb (snd_cons snd_var snd_nil)) snd_nil))))) (snd_ret snd_bl) snd_next) (snd_seq (snd_set (snd_callX hTb (snd_cons snd_var snd_nil))) (snd_seq (snd_set (snd_if (snd_test (snd_op rv_eqS (snd_op rv_ix snd_var snd_int) snd_str)) (snd_op rv_ix snd_var snd_int) snd_int)) (snd_for (si_tup (snd_tup (snd_cons snd_non (snd_cons snd_bl (snd_cons snd_bl (snd_cons snd_int (snd_cons (snd_neg snd_int) (snd_cons snd_var (snd_cons (snd_op (rv_ii0 (f := fun i j => .int (i - j)) fun _ _ _ => Dq.int _) snd_var snd_int) (snd_cons (snd_op (rv_ii (C := CPow) (f := fun i j => .int (i ^ j.toNat)) fun _ _ _ => Dq.int _) snd_int snd_int) (snd_cons snd_str (snd_cons (snd_tup snd_nil) (snd_cons (snd_callX hTb (snd_cons snd_var snd_nil)) (snd_cons (snd_err ZNoCommand.oc fun _ _ _ _ q => ⟨rfl, q⟩) snd_nil)))))))))))))) sg_name (snd_ifS (snd_not (snd_tB (snd_callX hTb (snd_cons (snd_callX hTb (snd_cons snd_var (snd_cons snd_var snd_nil))) (snd_cons (snd_callX hTb (snd_cons snd_var (snd_cons snd_var snd_nil))) snd_nil))))) (snd_ret snd_bl) snd_next)))))) (snd_seq (snd_set (snd_callX hTb (snd_cons snd_var (snd_cons snd_int snd_nil)))) (snd_seq (snd_for (si_tup (snd_op rv_ix snd_var snd_int)) (sg_tup (sg_cons sg_name (sg_cons (sg_tup (sg_cons sg_name (sg_cons sg_name sg_nil))) sg_nil))) (snd_seq (snd_set (snd_cb rc_tup (snd_cons (snd_l (snd_lc (si_tup snd_var) sg_name gin_name snd_yes (snd_callX hTb (snd_cons snd_var (snd_cons (snd_l (snd_lst (snd_cons snd_int (snd_cons snd_int (snd_cons (snd_neg snd_int) (snd_cons snd_int (snd_cons snd_non (snd_cons snd_int snd_nil)))))))) snd_nil))))) snd_nil))) (snd_ifS (snd_not (snd_tB (snd_callX hTb (snd_cons (snd_callX hTb (snd_cons snd_var (snd_cons snd_var (snd_cons snd_var snd_nil)))) (snd_cons (snd_callX hTb (snd_cons snd_var (snd_cons snd_var (snd_cons snd_var snd_nil)))) snd_nil))))) (snd_ret snd_bl) snd_next))) (snd_seq (snd_setF (snd_lst (snd_cons snd_str (snd_cons snd_str (snd_cons snd_str (snd_cons snd_str (snd_cons snd_str (snd_cons snd_str (snd_cons snd_str (snd_cons snd_str (snd_cons snd_str (snd_cons snd_str (snd_cons snd_str (snd_cons (snd_op rv_repS snd_str snd_int) (snd_cons (snd_op rv_catS snd_str (snd_op rv_repS snd_str snd_int)) (snd_cons (snd_op rv_catS snd_str (snd_op rv_repS snd_str snd_int)) snd_nil)))))))))))))))) (snd_seq (snd_for (si_list (snd_frz (snd_opF rv_cat snd_var (snd_l (snd_lst (snd_cons snd_str (snd_cons snd_str (snd_cons snd_str (snd_cons snd_str (snd_cons snd_str (snd_cons (snd_cb rc_strI (snd_cons (snd_op (rv_ii0 (f := fun i j => .int (i - j)) fun _ _ _ => Dq.int _) (snd_callX hTb (snd_cons snd_var (snd_cons (snd_op (rv_ii (C := CPow) (f := fun i j => .int (i ^ j.toNat)) fun _ _ _ => Dq.int _) snd_int snd_int) snd_nil))) (snd_op (rv_ii (C := CMul) (f := fun i j => .int (i * j)) fun _ _ _ => Dq.int _) snd_int (snd_op (rv_ii (C := CPow) (f := fun i j => .int (i ^ j.toNat)) fun _ _ _ => Dq.int _) snd_int snd_int))) snd_nil)) snd_nil))))))))))) sg_name (snd_ifS (snd_not (snd_tB (snd_callX hTb (snd_cons (snd_callX hTb (snd_cons snd_var snd_nil)) (snd_cons (snd_callX hTb (snd_cons snd_var snd_nil)) snd_nil))))) (snd_ret snd_bl) snd_next)) (snd_ret snd_bl))))))⟩
  refine ⟨_, pss_cons (ps_set (i := 1) sclaw.nd rfl (by first | exact Or.inl rfl | exact Or.inr rfl) (pe_g (D_law_bag.gfn.mono D_law_bagle) rm (by rfl) D_law_bag.mg D_law_bag.kp D_law_bag.bi .nil pass0 (pa_cons (pv 0) pa_nil))) hpz, ?_⟩
  refine ⟨_, rfl, a, ns, rfl, hsv0, hnz, ?_⟩
  intro x y cs H' nb
  let b : BP := ⟨x, y, x, []⟩
  have hTb : b.T = [] := rfl
  have bag : Bag b H' := by
    refine ⟨0, 1234567891, 0, cs, nb.ax, nb.ne, nb.ay, by decide, by decide, by decide, by decide, nb.len, nb.c0, ?_, ?_, ?_⟩
    · show H' x ≠ none
      rw [nb.ax]
      exact fun e => nomatch e
    · intro p hpz
      cases hpz
    · intro c ps e
      exact (only c ps (nb.nt c ps e)).elim
  have snd := hsnd b hTb
  refine snd (fun c => c = x ∨ c = y) H' (fun _ => False) _ H' envlaw ?_ _ math _ ?_ ?_ ?_ ?_ ?_
  · refine ⟨⟨.inl rfl, .inl rfl⟩, .inr rfl, ?_, Frm.refl _ _, bag, rfl, fun _ q => q.elim, ?_, ?_⟩
    · rintro c (rfl | rfl)
      · rw [nb.ax]
        exact fun e => nomatch e
      · rw [nb.ay]
        exact fun e => nomatch e
    · intro i s e h1 h2
      match i, h1, h2 with
      | 0, _, h2 =>
        obtain rfl := Option.some.inj h2
        trivial
      | 1, h1, h2 =>
        obtain rfl := Option.some.inj h1
        obtain rfl := Option.some.inj h2
        exact ⟨_, rfl, rfl, fun q => by cases q⟩
      | j + 2, _, h2 =>
        have h2 : (List.replicate 12 DD.E.un)[j]? = some e := h2
        rw [List.getElem?_replicate] at h2
        split at h2
        · obtain rfl := Option.some.inj h2
          trivial
        · cases h2
    · intro i j p xs ys _ _ h3 _
      match i, h3 with
      | 0, h3 => cases h3
      | 1, h3 => cases h3
      | j + 2, h3 =>
        have h3 : (List.replicate 12 DD.E.un)[j]? = some (DD.E.own xs) := h3
        rw [List.getElem?_replicate] at h3
        split at h3
        · cases h3
        · cases h3
  · intro O' σ' H2 env' r _ q
    cases (show W.d PyData.none = W.d (.bool true) from q)
  · intro _ _ _ _ _ _ q
    exact q.elim
  · intro _ _ _ _ _ _ q
    exact q.elim
  · rintro v w H2 f2 g2 rp q
    obtain rfl : w = .d (.bool true) := q
    obtain rfl := repBool rp
    exact k H2
  · intro _ _ _ _ _ _ q
    exact q.elim
end
end LL

set_option maxHeartbeats 3999999
namespace LL
open PySem PySem.Spec PyProof.Rows L2 GG DD
def clsBody : Stmt → List Stmt
  | .ClassDef _ _ _ body _ _ _ _ _ _ _ => body
  | _ => []
abbrev sNoInit : Stmt := (clsBody (top 5)).getD 0 (.Pass ⟨0, 0, 0, 0⟩)
theorem scNoInit : FnScope ["self"] ["self"] (defScope sNoInit) := ⟨rfl, rfl, rfl, by decide +kernel, rfl, by decide +kernel, by decide +kernel⟩
section
variable {P : Program} {w : World} {K : PySem.W.Frag} {mg : Str → Option Value} {base : Heap}
theorem ok_init {f : Addr} {fd : FuncData} (F : L2.Fun K "__init__" "NoCommand.__init__" sNoInit f fd) : GFn P w K mg base CX0 1 f fd ["self"] spNil :=
  okG F scNoInit (fun vs H Q E h => h.1) fun cdv A o s H vs Q E rm h => ⟨_, pss_one ps_pass, h.2⟩
end
theorem kit_no {K : PySem.W.Frag} {C : Addr} {T : String} (hmz : PySem.W.kitMeta T = true) (hsv0 : PySem.W.subIn K (.ref C) (.type T) = some false) : PySem.W.kitOne K (.ref C) (.type T) = some false := by
  unfold PySem.W.kitOne
  rw [if_neg (by show ¬ (Value.ref C == Value.type T) = true; exact fun z => by cases (beq_iff_eq.mp z))]
  unfold PySem.W.kitCls
  dsimp only
  rw [if_pos hmz]
  exact hsv0
end LL

set_option maxHeartbeats 3999999
/-! data whose leaves are known and whose size is bounded; loops, in the data's words -/
namespace MM
open PySem PySem.Spec PyProof.Rows L2 GG DD LL
def STRS : List Str := [("a" : Str), ("bird" : Str), ("c1" : Str), ("d" : Str), ("e" : Str), ("m" : Str), ("n" : Str), ("p" : Str), ("q2" : Str), ("who" : Str), ("b" : Str), ("xyzxyzxyzxyz" : Str), ("num" : Str), ("col" : Str), ("aa" : Str), ("c" : Str), ("zz" : Str), ("int" : Str), ("below" : Str), ("ref" : Str), ("may" : Str), ("true" : Str), ("<" : Str), ("key" : Str), ("not" : Str), ("=" : Str), ("or" : Str), ("none" : Str), ("plus" : Str), ("turned" : Str), ("times" : Str), ("over" : Str), ("rest" : Str), ("list" : Str), ("apart" : Str), ("same" : Str), ("by" : Str), ("+" : Str)]
mutual
def lfs : PD → Bool
  | .none => true
  | .bool _ => true
  | .int i => decide (-1000 ≤ i) && decide (i ≤ 1000)
  | .str x => STRS.contains x
  | .list xs => lfsAll xs
  | .tuple xs => lfsAll xs
  | .dict _ => false
def lfsAll : List PD → Bool
  | [] => true
  | x :: xs => lfs x && lfsAll xs
end
mutual
def wt : PD → Nat
  | .list xs => 1 + wtAll xs
  | .tuple xs => 1 + wtAll xs
  | _ => 1
def wtAll : List PD → Nat
  | [] => 0
  | x :: xs => wt x + wtAll xs
end
theorem strs_ok : ∀ x ∈ STRS, PyData.strOk x = true ∧ (reprText x).length ≤ 20 := by decide +kernel
theorem ints_ok : ∀ n ∈ List.range 2001, (Str.ofString (toString ((n : Int) - 1000))).length ≤ 8 := by decide +kernel
mutual
theorem lay_of : ∀ d : PD, lfs d = true → d.canLay0 = true
  | .none, _ => rfl
  | .bool _, _ => rfl
  | .int _, _ => rfl
  | .str x, h => by
    simp only [PyData.canLay0]
    exact (strs_ok x (List.contains_iff_mem.mp (by simpa only [lfs] using h))).1
  | .list xs, h => by
    simp only [PyData.canLay0]
    exact lay_all xs (by simpa only [lfs] using h)
  | .tuple xs, h => by
    simp only [PyData.canLay0]
    exact lay_all xs (by simpa only [lfs] using h)
  | .dict _, h => by simp [lfs] at h
theorem lay_all : ∀ xs : List PD, lfsAll xs = true → PyData.canLayAll0 xs = true
  | [], _ => rfl
  | x :: xs, h => by
    simp only [lfsAll, Bool.and_eq_true] at h
    simp only [PyData.canLayAll0, Bool.and_eq_true]
    exact ⟨lay_of x h.1, lay_all xs h.2⟩
end
mutual
theorem show_of : ∀ d : PD, lfs d = true → d.showable = true ∧ d.hasDict = false
  | .none, _ => ⟨rfl, rfl⟩
  | .bool _, _ => ⟨rfl, rfl⟩
  | .int i, h => by
    simp only [lfs, Bool.and_eq_true, decide_eq_true_eq] at h
    refine ⟨?_, rfl⟩
    simp only [PyData.showable]
    refine decide_eq_true ?_
    have h1 : i.natAbs ≤ 1000 := by omega
    have h2 : i.natAbs.log2 ≤ i.natAbs := Nat.log2_le_self _
    omega
  | .str x, _ => ⟨rfl, rfl⟩
  | .list xs, h => by
    simp only [PyData.showable, PyData.hasDict]
    exact show_all xs (by simpa only [lfs] using h)
  | .tuple xs, h => by
    simp only [PyData.showable, PyData.hasDict]
    exact show_all xs (by simpa only [lfs] using h)
  | .dict _, h => by simp [lfs] at h
theorem show_all : ∀ xs : List PD, lfsAll xs = true → PyData.showableAll xs = true ∧ PyData.hasDictAll xs = false
  | [], _ => ⟨rfl, rfl⟩
  | x :: xs, h => by
    simp only [lfsAll, Bool.and_eq_true] at h
    obtain ⟨a1, a2⟩ := show_of x h.1
    obtain ⟨b1, b2⟩ := show_all xs h.2
    simp only [PyData.showableAll, PyData.hasDictAll, a1, a2, b1, b2]
    exact ⟨rfl, rfl⟩
end
theorem listText_le (ts : List Str) : (listText ts).length ≤ piled ts + 2 := by
  unfold listText
  cases ts with
  | nil => decide +kernel
  | cons t r =>
    have e : textFrom 0 "[" (t :: r) = textFrom 1 (("[" : Str) ++ ("" : Str) ++ t) r := rfl
    rw [e, Str.length_append, textFrom_length_pos _ _ _ (by decide), piled_cons, Str.length_append, Str.length_append]
    have h1 : ("[" : Str).length = 1 := by decide +kernel
    have h2 : ("]" : Str).length = 1 := by decide +kernel
    have h3 : ("" : Str).length = 0 := by decide +kernel
    omega
theorem tupleText_le (ts : List Str) : (tupleText ts).length ≤ piled ts + 3 := by
  unfold tupleText
  have h1 : ("(" : Str).length = 1 := by decide +kernel
  have h2 : (Str.ofString (if ts.length == 1 then ",)" else ")")).length ≤ 2 := by
    split <;> decide +kernel
  rw [Str.length_append, Str.length_append, h1]
  by_cases e : ts = []
  · subst e
    have h3 : (Str.join ", " []).length = 0 := by decide +kernel
    rw [h3]
    have := h2
    omega
  · have := join_length_add ts e
    omega
mutual
theorem len_of : ∀ d : PD, lfs d = true → d.shown.length + 2 ≤ 30 * wt d
  | .none, _ => by
    have h : (PyData.shown .none).length = 4 := by decide +kernel
    rw [h]
    simp only [wt]
    omega
  | .bool b, _ => by
    have h : (PyData.shown (.bool b)).length ≤ 5 := by cases b <;> decide +kernel
    simp only [wt]
    omega
  | .int i, h => by
    simp only [lfs, Bool.and_eq_true, decide_eq_true_eq] at h
    have e := ints_ok (i + 1000).toNat (List.mem_range.mpr (by omega))
    have ez2 : (((i + 1000).toNat : Nat) : Int) - 1000 = i := by omega
    rw [ez2] at e
    have e3 : (PyData.shown (.int i)).length ≤ 8 := e
    simp only [wt]
    omega
  | .str x, h => by
    have e := (strs_ok x (List.contains_iff_mem.mp (by simpa only [lfs] using h))).2
    have e3 : (PyData.shown (.str x)).length ≤ 20 := e
    simp only [wt]
    omega
  | .list xs, h => by
    have ih := len_all xs (by simpa only [lfs] using h)
    have e : (PyData.shown (.list xs)).length ≤ piled (PyData.shownAll xs) + 2 := by
      simp only [PyData.shown]
      exact listText_le _
    simp only [wt]
    omega
  | .tuple xs, h => by
    have ih := len_all xs (by simpa only [lfs] using h)
    have e : (PyData.shown (.tuple xs)).length ≤ piled (PyData.shownAll xs) + 3 := by
      simp only [PyData.shown]
      exact tupleText_le _
    simp only [wt]
    omega
  | .dict _, h => by simp [lfs] at h
theorem len_all : ∀ xs : List PD, lfsAll xs = true → piled (PyData.shownAll xs) ≤ 30 * wtAll xs
  | [], _ => by
    simp only [PyData.shownAll, piled_nil]
    exact Nat.zero_le _
  | x :: xs, h => by
    simp only [lfsAll, Bool.and_eq_true] at h
    have a := len_of x h.1
    have b := len_all xs h.2
    simp only [PyData.shownAll, piled_cons, wtAll]
    omega
end
/-- leaves known, weight at most n, depth at most k -/
structure Ok (n k : Nat) (d : PD) : Prop where
  l : lfs d = true
  w : wt d ≤ n
  d : d.depth ≤ k
theorem Ok.mono {n k n' k' : Nat} {d : PD} (h : Ok n k d) (h1 : n ≤ n') (h2 : k ≤ k') : Ok n' k' d := ⟨h.l, Nat.le_trans h.w h1, Nat.le_trans h.d h2⟩
theorem oks : ∀ {xs : List PD} {n k : Nat}, (∀ x ∈ xs, Ok n k x) → lfsAll xs = true ∧ wtAll xs ≤ xs.length * n ∧ PyData.depthAll xs ≤ k
  | [], n, k, _ => ⟨rfl, by simp [wtAll], by simp [PyData.depthAll]⟩
  | x :: xs, n, k, h => by
    obtain ⟨a, b, c⟩ := oks (xs := xs) fun y hy => h y (List.mem_cons_of_mem _ hy)
    have hxz := h x List.mem_cons_self
    refine ⟨by simp only [lfsAll, hxz.l, a, Bool.and_self], ?_, ?_⟩
    · have := hxz.w
      simp only [wtAll, List.length_cons, Nat.succ_mul]
      omega
    · have := hxz.d
      simp only [PyData.depthAll]
      omega
theorem Ok.tup {xs : List PD} {m n k : Nat} (hlz0 : xs.length ≤ m) (h : ∀ x ∈ xs, Ok n k x) : Ok (1 + m * n) (k + 1) (.tuple xs) := by
  obtain ⟨a, b, c⟩ := oks h
  have e : xs.length * n ≤ m * n := Nat.mul_le_mul_right _ hlz0
  exact ⟨by simp only [lfs, a], by simp only [wt]; omega, by simp only [PyData.depth]; omega⟩
theorem Ok.lst {xs : List PD} {m n k : Nat} (hlz0 : xs.length ≤ m) (h : ∀ x ∈ xs, Ok n k x) : Ok (1 + m * n) (k + 1) (.list xs) := by
  obtain ⟨a, b, c⟩ := oks h
  have e : xs.length * n ≤ m * n := Nat.mul_le_mul_right _ hlz0
  exact ⟨by simp only [lfs, a], by simp only [wt]; omega, by simp only [PyData.depth]; omega⟩
theorem Ok.shaped {n k : Nat} {d : PD} (h : Ok n k d) (hk : k ≤ 64 := by decide) : SeqAt.shaped d = true := by
  unfold SeqAt.shaped
  rw [lay_of d h.l, Bool.true_and]
  exact decide_eq_true (Nat.le_trans h.d hk)
theorem Ok.eqv {n k : Nat} {d : PD} (h : Ok n k d) : PyData.eqv d d = true := SeqAt.eqv_refl d (lay_of d h.l)
theorem Ok.short {n k : Nat} {d : PD} (h : Ok n k d) (hnz : n ≤ 500000) : d.shown.length ≤ sizeLine := by
  have := len_of d h.l
  have := h.w
  rw [sizeLine_eq]
  omega
/-! ### loops -/
theorem lc_over {α : Type} {mg : Wg} {mt : Wt} {me : Wm} {ez1 : En} (g : α → WI) (f : α → Option PD) : ∀ (xs : List α) (acc : List PD) (Q : List PD → Prop),
    (∀ a ∈ xs, ∀ Qx : Option PD → Prop, Qx (f a) → mg (g a) ez1 fun env1 => mt env1 fun c => if c = true then me env1 fun w => ∃ x, w = .d x ∧ Qx (some x) else Qx none) → acc.length + xs.length ≤ 1000000 → Q (acc ++ xs.filterMap f) → lcW mg mt me ez1 (xs.map g) acc Q
  | [], acc, Q, _, _, q => by
    rw [List.filterMap_nil, List.append_nil] at q
    exact q
  | a :: xs, acc, Q, h, hlz0, q => by
    rw [List.length_cons] at hlz0
    refine h a List.mem_cons_self (fun o => match o with
      | some x => acc.length < sizeLine ∧ lcW mg mt me ez1 (xs.map g) (acc ++ [x]) Q
      | none => lcW mg mt me ez1 (xs.map g) acc Q) ?_
    cases e : f a with
    | none =>
      rw [List.filterMap_cons_none e] at q
      exact lc_over g f xs acc Q (fun b hb => h b (List.mem_cons_of_mem _ hb)) (by omega) q
    | some x =>
      rw [List.filterMap_cons_some e] at q
      refine ⟨by rw [sizeLine_eq]; omega, lc_over g f xs (acc ++ [x]) Q (fun b hb => h b (List.mem_cons_of_mem _ hb)) (by rw [List.length_append, List.length_singleton]; omega) ?_⟩
      rw [List.append_assoc]
      exact q
theorem loop_over {α : Type} {mg : Wg} {mb : Ws} (g : α → WI) (I : Nat → En → Prop) : ∀ (xs : List α) (i : Nat) (env : En) (Q : Out → Prop),
    (∀ (j : Nat) (a : α) (env : En), xs[j]? = some a → I (i + j) env → ∀ Qo : Out → Prop, (∀ e, I (i + j + 1) e → Qo (.nx e)) → mg (g a) env fun env1 => mb env1 Qo) → I i env → (∀ env, I (i + xs.length) env → Q (.nx env)) → loopW mg mb (xs.map g) env Q
  | [], i, env, Q, _, hi, q => q env hi
  | a :: xs, i, env, Q, h, hi, q => by
    refine h 0 a env rfl hi _ ?_
    intro e hez
    refine loop_over g I xs (i + 1) e Q ?_ hez ?_
    · intro j b env' hb hi' Qo k
      have ez1 : i + 1 + j = i + (j + 1) := by omega
      rw [ez1] at hi' k
      exact h (j + 1) b env' (by simpa using hb) hi' Qo k
    · intro env' h'
      refine q env' ?_
      rw [List.length_cons]
      have ez1 : i + 1 + xs.length = i + (xs.length + 1) := by omega
      rw [ez1] at h'
      exact h'
end MM

set_option maxHeartbeats 3999999
/-! the program's defs, as data -/
namespace MM
open PySem PySem.Spec PyProof.Rows L2 GG DD LL
theorem sz {n : Nat} (h : Nat.ble n 16777216 = true) : n ≤ sizeLine := by
  rw [sizeLine_eq]
  exact Nat.le_of_ble_eq_true h
/-! ### schemas -/
structure Tab where
  cols : List (Str × PD)
  check : PD
structure Sch where
  ts : List (Str × Tab)
  rules : PD
def tD (t : Tab) : PD := .tuple [.tuple (t.cols.map DD.pairD), t.check]
def tabP (p : Str × Tab) : PD := DD.pairD (p.1, tD p.2)
def sD (s : Sch) : PD := .tuple [.tuple (s.ts.map tabP), s.rules]
def IsSort (d : PD) : Prop := d = .tuple [.str "int"] ∨ (∃ n : Int, d = .tuple [.str "below", .int n]) ∨ (∃ x : Str, d = .tuple [.str "ref", .str x]) ∨ ∃ x : Str, d = .tuple [.str "may", .str x]
def lt (x y : Str) : Prop := x.cps.toList < y.cps.toList
structure TabOk (t : Tab) : Prop where
  n : t.cols.length ≤ 4
  inc : (t.cols.map Prod.fst).Pairwise lt
  nm : ∀ c ∈ t.cols, c.1 ∈ STRS
  so : ∀ c ∈ t.cols, IsSort c.2 ∧ Ok 4 1 c.2
  ch : Ok 60 8 t.check
structure Gd (s : Sch) : Prop where
  n : s.ts.length ≤ 6
  inc : (s.ts.map Prod.fst).Pairwise lt
  nm : ∀ p ∈ s.ts, p.1 ∈ STRS
  tab : ∀ p ∈ s.ts, TabOk p.2
  ru : Ok 60 8 s.rules
  ne : s.ts ≠ []
  zz : ("zz" : Str) ∉ s.ts.map Prod.fst
theorem inc_nodup : ∀ {xs : List Str}, xs.Pairwise lt → xs.Nodup
  | [], _ => List.nodup_nil
  | x :: xs, h => by
    obtain ⟨h1, h2⟩ := List.pairwise_cons.mp h
    rw [List.nodup_cons]
    exact ⟨fun z => List.lt_irrefl _ (h1 x z), inc_nodup h2⟩
theorem ok_str {x : Str} (h : x ∈ STRS) : Ok 1 0 (.str x) := ⟨by simp only [lfs]; exact List.contains_iff_mem.mpr h, by simp [wt], by simp [PyData.depth]⟩
theorem ok_int {i : Int} (h1 : -1000 ≤ i) (h2 : i ≤ 1000) : Ok 1 0 (.int i) := ⟨by simp only [lfs, h1, h2, decide_true, Bool.and_self], by simp [wt], by simp [PyData.depth]⟩
theorem ok_pair {n k : Nat} {p : Str × PD} (h : p.1 ∈ STRS) (hdz : Ok n k p.2) (hnz : 1 ≤ n) : Ok (1 + 2 * n) (k + 1) (DD.pairD p) := by
  refine Ok.tup (Nat.le_refl _) ?_
  intro x hxz
  rcases List.mem_cons.mp hxz with rfl | hxz
  · exact (ok_str h).mono hnz (Nat.zero_le _)
  · obtain rfl := List.mem_singleton.mp hxz
    exact hdz
theorem TabOk.ok {t : Tab} (h : TabOk t) : Ok 121 9 (tD t) := by
  refine Ok.tup (m := 2) (n := 60) (Nat.le_refl _) ?_
  intro x hxz
  rcases List.mem_cons.mp hxz with rfl | hxz
  · refine (Ok.tup (m := 4) (n := 9) (k := 2) (by rw [List.length_map]; exact h.n) ?_).mono (by decide) (by decide)
    intro x hxz
    obtain ⟨c, hc, rfl⟩ := List.mem_map.mp hxz
    exact ok_pair (n := 4) (h.nm c hc) (h.so c hc).2 (by decide)
  · obtain rfl := List.mem_singleton.mp hxz
    exact h.ch
theorem Gd.ok {s : Sch} (h : Gd s) : Ok 2919 12 (sD s) := by
  refine Ok.tup (m := 2) (n := 1459) (k := 11) (Nat.le_refl _) ?_
  intro x hxz
  rcases List.mem_cons.mp hxz with rfl | hxz
  · refine Ok.tup (m := 6) (n := 243) (k := 10) (by rw [List.length_map]; exact h.n) ?_
    intro x hxz
    obtain ⟨p, hpz, rfl⟩ := List.mem_map.mp hxz
    exact ok_pair (p := (p.1, tD p.2)) (n := 121) (h.nm p hpz) (h.tab p hpz).ok (by decide)
  · obtain rfl := List.mem_singleton.mp hxz
    exact h.ru.mono (by decide) (by decide)
theorem yt {A B : Prop} (h : A) : if true = true then A else B := by
  rw [if_pos rfl]
  exact h
theorem lc_map {α : Type} {mg : Wg} {mt : Wt} {me : Wm} {ez1 : En} (g : α → WI) (f : α → PD) (xs : List α) (acc : List PD) (Q : List PD → Prop)
    (h : ∀ a ∈ xs, ∀ Qx : Option PD → Prop, Qx (some (f a)) → mg (g a) ez1 fun env1 => mt env1 fun c => if c = true then me env1 fun w => ∃ x, w = .d x ∧ Qx (some x) else Qx none) (hlz0 : acc.length + xs.length ≤ 1000000) (q : Q (acc ++ xs.map f)) : lcW mg mt me ez1 (xs.map g) acc Q :=
  lc_over g (fun a => some (f a)) xs acc Q h hlz0 (by rw [List.filterMap_eq_map']; exact q)
/-! ### what each def gives -/
def fTable : Fm := fun ws Q => ∃ s n t, Gd s ∧ (n, t) ∈ s.ts ∧ ws = [.d (sD s), .d (.str n)] ∧ Q (.d (tD t))
theorem w_table (ws Q) (h : fTable ws Q) : bodyW 2 m_law_table_of ws Q := by
  obtain ⟨s, n, t, g, hmz, rfl, q⟩ := h
  refine ⟨_, rfl, _, _, rfl, rfl, s.ts.map (fun p => (p.1, tD p.2)), ?_, ?_, ?_⟩
  · rw [List.map_map]
    rfl
  · rw [List.map_map]
    exact inc_nodup g.inc
  · exact ⟨_, rfl, n, tD t, rfl, List.mem_map.mpr ⟨_, hmz, rfl⟩, rfl, q⟩
theorem strs_map : ∀ zs : List Str, strsOf (zs.map PyData.str) = some zs
  | [] => rfl
  | z :: zs => by simp only [List.map_cons, strsOf, strs_map zs, Option.map_some]
theorem nodup_get : ∀ {xs : List Str} {i j : Nat} {x : Str}, xs.Nodup → xs[i]? = some x → xs[j]? = some x → i = j
  | [], i, j, x, _, h, _ => by simp at h
  | y :: ys, 0, 0, x, _, _, _ => rfl
  | y :: ys, 0, j + 1, x, h, h1, h2 => by
    rw [List.nodup_cons] at h
    obtain rfl := Option.some.inj h1
    exact (h.1 (List.mem_of_getElem? h2)).elim
  | y :: ys, i + 1, 0, x, h, h1, h2 => by
    rw [List.nodup_cons] at h
    obtain rfl := Option.some.inj h2
    exact (h.1 (List.mem_of_getElem? h1)).elim
  | y :: ys, i + 1, j + 1, x, h, h1, h2 => by
    rw [List.nodup_cons] at h
    exact congrArg (· + 1) (nodup_get (i := i) (j := j) h.2 h1 h2)
theorem any_str {α : Type} (f : α → Str) (xs : List α) (c : Str) : ((xs.map fun p => PyData.str (f p)).any fun z => PyData.eqv z (.str c)) = xs.any fun p => PyData.eqv (.str (f p)) (.str c) := by
  rw [List.any_map]
  rfl
theorem shaped_names {α : Type} (f : α → Str) {xs : List α} (hlz0 : xs.length ≤ 100) (h : ∀ a ∈ xs, f a ∈ STRS) : Ok 101 1 (.tuple (xs.map fun p => .str (f p))) := by
  refine (Ok.tup (m := 100) (n := 1) (k := 0) (by rw [List.length_map]; exact hlz0) ?_)
  intro x hxz
  obtain ⟨a, haz, rfl⟩ := List.mem_map.mp hxz
  exact ok_str (h a haz)
end MM

set_option maxHeartbeats 3999999
namespace MM
open PySem PySem.Spec PyProof.Rows L2 GG DD LL
theorem lc2_over {α : Type} {mg : Wg} {mt : Wt} {mi1 : Wi} {mg1 : Wg} {mt1 : Wt} {me : Wm} {vs1 : List Nat} {ez1 : En} (g : α → WI) (out : α → List PD) : ∀ (xs : List α) (acc : List PD) (Q : List PD → Prop),
    (∀ a ∈ xs, ∀ (acc : List PD) (Q' : List PD → Prop), acc.length ≤ 900000 → Q' (acc ++ out a) → mg (g a) ez1 fun env1 => mt env1 fun c => if c = true then mi1 env1 fun ds1 => lcW mg1 mt1 me (wipeE env1 vs1) ds1 acc Q' else Q' acc) →
    acc.length + (xs.flatMap out).length ≤ 900000 → Q (acc ++ xs.flatMap out) → lc2W mg mt mi1 mg1 mt1 me vs1 ez1 (xs.map g) acc Q
  | [], acc, Q, _, _, q => by
    rw [List.flatMap_nil, List.append_nil] at q
    exact q
  | a :: xs, acc, Q, h, hlz0, q => by
    rw [List.flatMap_cons] at hlz0 q
    rw [List.length_append] at hlz0
    refine h a List.mem_cons_self acc (fun acc' => lc2W mg mt mi1 mg1 mt1 me vs1 ez1 (xs.map g) acc' Q) (by omega) ?_
    refine lc2_over g out xs _ Q (fun b hb => h b (List.mem_cons_of_mem _ hb)) (by rw [List.length_append]; omega) ?_
    rw [List.append_assoc]
    exact q
def keep (n : Str) (p : Str × Tab) : Bool := !PyData.eqv (.str p.1) (.str n)
def restL (s : Sch) (n : Str) : List PD := (s.ts.filter (keep n)).map tabP
theorem rest_map {n : Str} {ts : List (Str × Tab)} : ts.filterMap (fun p => if keep n p = true then some (tabP p) else none) = (ts.filter (keep n)).map tabP := by
  induction ts with
  | nil => rfl
  | cons c cs ih =>
    by_cases e : keep n c = true
    · rw [List.filterMap_cons_some (by rw [if_pos e]), List.filter_cons_of_pos e, List.map_cons, ih]
    · rw [List.filterMap_cons_none (by rw [if_neg e]), List.filter_cons_of_neg e, ih]
theorem tab_named (p : Str × Tab) : IsNamed (tabP p) := named_pair _
/-! ### the law's own -/
def fAlike : Fm := fun ws Q => ∃ x y d, ws = [x, y] ∧ x.py = some d ∧ y.py = some d ∧ Ok 100000 30 d ∧ Q (.d (.bool true))
theorem w_alike (ws Q) (h : fAlike ws Q) : bodyW 2 m_law_alike ws Q := by
  obtain ⟨x, y, d, rfl, ez1, ez2, ok, q⟩ := h
  refine ⟨x, rfl, y, rfl, d, d, ez1, ez2, ok.shaped, ok.shaped, _, rfl, ?_⟩
  rw [ok.eqv]
  refine yt ?_
  obtain ⟨sh, nd⟩ := show_of d ok.l
  refine ⟨x, rfl, x, d, rfl, ez1, sh, nd, by have := ok.d; omega, ok.short (by decide), y, rfl, y, d, rfl, ez2, sh, nd, by have := ok.d; omega, ok.short (by decide), _, _, rfl, rfl, rfl, ?_⟩
  rw [decide_eq_true rfl]
  exact q
def fSome : Fm := fun ws Q => ∃ w xs, ws = [.bag, w] ∧ w.lst = some xs ∧ xs ≠ [] ∧ xs.length ≤ 1000 ∧ ∀ x ∈ xs, Q (.d x)
def fMixed : FmF := fun ws Q => ∃ xs, ws = [.bag, .d (.list xs)] ∧ xs.length ≤ 1000 ∧ ∀ ys, ys.Perm xs → Q ys
theorem ix_lst {w : W} {xs : List PD} (e : w.lst = some xs) (i : Int) : ixD w i = atI xs i := by
  cases w with
  | l ys =>
    obtain rfl := Option.some.inj e
    rfl
  | bag => cases e
  | d z =>
    cases z <;> try cases e
    rfl
theorem at_of {xs : List PD} {i : Int} (h0 : 0 ≤ i) (h1 : i < xs.length) : ∃ x ∈ xs, atI xs i = some x := by
  have hlz0 : i.toNat < xs.length := by omega
  refine ⟨xs[i.toNat], List.getElem_mem hlz0, ?_⟩
  unfold atI ixN
  rw [if_pos h0, if_pos h1]
  exact List.getElem?_eq_getElem hlz0
theorem w_some (ws Q) (h : fSome ws Q) : bodyW 2 (m_law_some takeF) ws Q := by
  obtain ⟨w, xs, rfl, e, ne, hlz0, q⟩ := h
  have hpz : 0 < xs.length := List.length_pos_iff.mpr ne
  refine ⟨w, rfl, _, rfl, w, rfl, w, xs.length, rfl, .inl (by rw [e]; rfl), rfl, xs.length, rfl, by omega, by omega, ?_⟩
  intro v h0 h1
  obtain ⟨x, hxz, ex⟩ := at_of h0 h1
  exact ⟨v, x, rfl, (ix_lst e v).trans ex, rfl, q x hxz⟩
theorem w_mixed (ws Q) (h : fMixed ws Q) : bodyF 4 (m_law_mixed takeF) ws Q := by
  obtain ⟨xs, rfl, hlz0, q⟩ := h
  refine ⟨_, rfl, sz rfl, _, rfl, _, rfl, ?_⟩
  have main := loop_over (mg := gnW 3) (mb := insW 2 (callW 2 takeF (consW (varW 0) (consW (opW (iiF (fun _ _ => True) fun i j => .int (i + j)) (cbW lenF (consW (varW 2) nilW)) (conW (.int 1))) nilW))) (varW 3)) WI.d
    (fun i env => ∃ ys e3, env = [.v .bag, .v (.d (.list xs)), .own ys, e3] ∧ ys.Perm (xs.take i)) xs 0 [.v .bag, .v (.d (.list xs)), .own [], .un] (thenW (retOW 2) (outF Q)) ?_ ⟨[], .un, rfl, by rw [List.take_zero]⟩ ?_
  · exact main
  · rintro j a env hj ⟨ys, e3, rfl, hpz⟩ Qo k
    rw [Nat.zero_add] at hpz k
    have hjl : j < xs.length := (List.getElem?_eq_some_iff.mp hj).1
    have hy : ys.length = j := by
      rw [hpz.length_eq, List.length_take]
      omega
    refine ⟨_, rfl, ys, rfl, _, rfl, _, rfl, _, ys.length, rfl, .inl rfl, _, _, rfl, rfl, trivial, rfl, ((ys.length : Nat) : Int) + 1, rfl, by omega, by omega, ?_⟩
    intro v h0 h1
    refine ⟨_, rfl, v, a, rfl, rfl, by rw [sizeLine_eq]; omega, h0, by omega, ?_⟩
    refine k _ ⟨_, _, rfl, ?_⟩
    have ez1 : xs.take (j + 1) = xs.take j ++ [a] := by
      rw [List.take_add_one, hj]
      rfl
    rw [ez1]
    have ez2 : (ys.take v.toNat ++ [a] ++ ys.drop v.toNat).Perm (ys ++ [a]) := by
      rw [List.append_assoc]
      refine (List.perm_append_comm_assoc _ _ _).trans ?_
      rw [List.take_append_drop]
      exact List.perm_append_comm
    exact ez2.trans (hpz.append_right _)
  · rintro env ⟨ys, e3, rfl, hpz⟩
    rw [Nat.zero_add, List.take_length] at hpz
    exact ⟨ys, rfl, q ys hpz⟩
end MM

set_option maxHeartbeats 3999999
/-! what is drawn -/
namespace MM
open PySem PySem.Spec PyProof.Rows L2 GG DD LL
/-- one of a few, drawn -/
theorem some_of {w : W} {xs : List PD} {Q : W → Prop} (e : w.lst = some xs) (ne : xs ≠ []) (hlz0 : xs.length ≤ 1000) (h : ∀ x ∈ xs, Q (.d x)) : fSome [.bag, w] Q := ⟨w, xs, rfl, e, ne, hlz0, h⟩
theorem ln {n : Nat} (h : Nat.ble n 1000 = true) : n ≤ 1000 := Nat.le_of_ble_eq_true h
def fName : Fm := fun ws Q => ws = [.bag] ∧ ∀ x, x ∈ STRS → Q (.d (.str x))
theorem w_name (ws Q) (h : fName ws Q) : bodyW 1 (m_law_any_name fSome) ws Q := by
  obtain ⟨rfl, q⟩ := h
  refine ⟨_, rfl, _, rfl, sz rfl, rfl, some_of rfl (by simp) (ln rfl) ?_⟩
  have h : ∀ x ∈ [PyData.str "a", .str "bird", .str "c1", .str "m", .str "n", .str "p", .str "q2", .str "who", .str "b", .str "xyzxyzxyzxyz", .str "num", .str "col"], lfs x = true := by decide +kernel
  intro x hxz
  refine ⟨rfl, ?_⟩
  have hlz0 := h x hxz
  simp only [List.mem_cons, List.not_mem_nil, or_false] at hxz
  rcases hxz with rfl | rfl | rfl | rfl | rfl | rfl | rfl | rfl | rfl | rfl | rfl | rfl <;> exact q _ (List.contains_iff_mem.mp (by simpa only [lfs] using hlz0))
def fSorts : Fm := fun ws Q => ws = [.bag] ∧ ∀ d, Ok 4 1 d → Q (.d d)
theorem ok2 {x y : PD} (h1 : Ok 1 0 x) (h2 : Ok 1 0 y) : Ok 4 1 (.tuple [x, y]) := by
  refine (Ok.tup (m := 2) (n := 1) (k := 0) (Nat.le_refl _) ?_).mono (by decide) (by decide)
  intro z hzz
  rcases List.mem_cons.mp hzz with rfl | hzz
  · exact h1
  · obtain rfl := List.mem_singleton.mp hzz
    exact h2
theorem st {x : Str} (h : STRS.contains x = true := by decide +kernel) : Ok 1 0 (.str x) := ok_str (List.contains_iff_mem.mp h)
theorem it {i : Int} (h1 : -1000 ≤ i := by decide) (h2 : i ≤ 1000 := by decide) : Ok 1 0 (.int i) := ok_int h1 h2
theorem w_sorts (ws Q) (h : fSorts ws Q) : bodyW 2 (m_law_any_sort fName fSome) ws Q := by
  obtain ⟨rfl, q⟩ := h
  refine ⟨_, rfl, sz rfl, _, rfl, sz rfl, _, rfl, _, rfl, sz rfl, rfl, some_of rfl (by simp) (ln rfl) ?_⟩
  intro n hnz
  have okn : Ok 1 0 n := by
    simp only [List.mem_cons, List.not_mem_nil, or_false] at hnz
    rcases hnz with rfl | rfl | rfl <;> exact it
  refine ⟨_, rfl, sz rfl, _, rfl, rfl, rfl, ?_⟩
  intro x hxz
  refine ⟨_, rfl, sz rfl, _, rfl, sz rfl, ?_⟩
  refine ⟨_, rfl, _, rfl, _, rfl, rfl, rfl, ?_⟩
  intro y hy
  refine ⟨_, rfl, sz rfl, _, rfl, sz rfl, _, _, rfl, rfl, sz rfl, rfl, some_of rfl (by simp) (ln rfl) ?_⟩
  intro d hdz
  refine ⟨rfl, q d ?_⟩
  simp only [List.cons_append, List.nil_append, List.mem_cons, List.not_mem_nil, or_false] at hdz
  have oki : Ok 4 1 (.tuple [.str "int"]) := ⟨by decide +kernel, by decide, by decide⟩
  rcases hdz with rfl | rfl | rfl | rfl | rfl
  · exact oki
  · exact oki
  · exact ok2 st okn
  · exact ok2 st (ok_str hxz)
  · exact ok2 st (ok_str hy)
end MM

set_option maxHeartbeats 3999999
namespace MM
open PySem PySem.Spec PyProof.Rows L2 GG DD LL
theorem lc_any {α : Type} {mg : Wg} {mt : Wt} {me : Wm} {ez1 : En} (g : α → WI) (P : PD → Prop) : ∀ (xs : List α) (acc : List PD) (Q : List PD → Prop),
    (∀ a ∈ xs, ∀ Qx : Option PD → Prop, (∀ x, P x → Qx (some x)) → mg (g a) ez1 fun env1 => mt env1 fun c => if c = true then me env1 fun w => ∃ x, w = .d x ∧ Qx (some x) else Qx none) → acc.length + xs.length ≤ 1000000 →
    (∀ ys : List PD, ys.length = xs.length → (∀ y ∈ ys, P y) → Q (acc ++ ys)) → lcW mg mt me ez1 (xs.map g) acc Q
  | [], acc, Q, _, _, q => by
    have := q [] rfl (fun _ z => by cases z)
    rw [List.append_nil] at this
    exact this
  | a :: xs, acc, Q, h, hlz0, q => by
    rw [List.length_cons] at hlz0
    refine h a List.mem_cons_self (fun o => match o with
      | some x => acc.length < sizeLine ∧ lcW mg mt me ez1 (xs.map g) (acc ++ [x]) Q
      | none => lcW mg mt me ez1 (xs.map g) acc Q) ?_
    intro x px
    refine ⟨by rw [sizeLine_eq]; omega, lc_any g P xs (acc ++ [x]) Q (fun b hb => h b (List.mem_cons_of_mem _ hb)) (by rw [List.length_append, List.length_singleton]; omega) ?_⟩
    intro ys hy py
    rw [List.append_assoc]
    refine q (x :: ys) (by rw [List.length_cons, List.length_cons, hy]) ?_
    intro y hy'
    rcases List.mem_cons.mp hy' with rfl | hy'
    · exact px
    · exact py y hy'
def fWay : Fm := fun ws Q => ws = [.bag] ∧ ∀ d, Ok 12 2 d → Q (.d d)
theorem okt {n k : Nat} {x y : PD} (h1 : Ok n k x) (h2 : Ok n k y) : Ok (1 + 2 * n) (k + 1) (.tuple [x, y]) := by
  refine Ok.tup (m := 2) (Nat.le_refl _) ?_
  intro z hzz
  rcases List.mem_cons.mp hzz with rfl | hzz
  · exact h1
  · obtain rfl := List.mem_singleton.mp hzz
    exact h2
theorem okt3 {n k : Nat} {x y z : PD} (h1 : Ok n k x) (h2 : Ok n k y) (h3 : Ok n k z) : Ok (1 + 3 * n) (k + 1) (.tuple [x, y, z]) := by
  refine Ok.tup (m := 3) (Nat.le_refl _) ?_
  intro w hw
  rcases List.mem_cons.mp hw with rfl | hw
  · exact h1
  · rcases List.mem_cons.mp hw with rfl | hw
    · exact h2
    · obtain rfl := List.mem_singleton.mp hw
      exact h3
theorem ok1 {x : Str} (h : STRS.contains x = true := by decide +kernel) : Ok 2 1 (.tuple [.str x]) := by
  refine Ok.tup (m := 1) (n := 1) (k := 0) (Nat.le_refl _) ?_
  intro w hw
  obtain rfl := List.mem_singleton.mp hw
  exact st h
theorem w_way (ws Q) (h : fWay ws Q) : bodyW 3 (m_law_any_way fSome takeF) ws Q := by
  obtain ⟨rfl, q⟩ := h
  refine ⟨_, rfl, _, rfl, _, rfl, sz rfl, rfl, some_of rfl (by simp) (ln rfl) ?_⟩
  intro x1 h1
  have o1 : Ok 1 0 x1 := by
    simp only [List.mem_cons, List.not_mem_nil, or_false] at h1
    rcases h1 with rfl | rfl | rfl | rfl <;> exact it
  refine ⟨_, rfl, sz rfl, _, rfl, sz rfl, _, rfl, _, rfl, sz rfl, rfl, some_of rfl (by simp) (ln rfl) ?_⟩
  intro x2 h2
  have o2 : Ok 1 0 x2 := by
    simp only [List.mem_cons, List.not_mem_nil, or_false] at h2
    rcases h2 with rfl | rfl | rfl <;> exact it
  refine ⟨_, rfl, sz rfl, _, rfl, sz rfl, _, rfl, _, rfl, _, rfl, sz rfl, rfl, some_of rfl (by simp) (ln rfl) ?_⟩
  intro x3 h3
  have o3 : Ok 1 0 x3 := by
    simp only [List.mem_cons, List.not_mem_nil, or_false] at h3
    rcases h3 with rfl | rfl | rfl <;> exact it
  refine ⟨_, rfl, sz rfl, _, rfl, _, rfl, sz rfl, rfl, some_of rfl (by simp) (ln rfl) ?_⟩
  intro x4 h4
  have o4 : Ok 1 0 x4 := by
    simp only [List.mem_cons, List.not_mem_nil, or_false] at h4
    rcases h4 with rfl | rfl | rfl <;> exact it
  refine ⟨_, rfl, sz rfl, _, rfl, sz rfl, _, _, rfl, rfl, sz rfl, ?_⟩
  refine ⟨_, rfl, _, rfl, _, rfl, rfl, (4 : Int), rfl, by decide, by decide, ?_⟩
  intro v v0 v1
  have n62 : (2 : Int) ^ 62 = 4611686018427387904 := by decide
  refine ⟨_, _, rfl, rfl, trivial, _, rfl, by omega, by omega, ?_⟩
  refine lc_any _ (fun x => Ok 1 0 x) (List.range (1 + v).toNat) [] _ ?_ (by rw [List.length_range, List.length_nil]; omega) ?_
  · intro i _ Qx qx
    refine ⟨_, rfl, _, rfl, rfl, (9 : Int), rfl, by decide, by decide, ?_⟩
    intro u u0 u1
    exact ⟨_, _, rfl, rfl, trivial, _, rfl, qx _ (ok_int (by omega) (by omega))⟩
  · intro ys hy py
    rw [List.length_range] at hy
    refine ⟨_, _, rfl, .inl rfl, _, rfl, sz rfl, _, rfl, sz rfl, _, _, rfl, rfl, sz rfl, rfl, some_of rfl (by simp) (ln rfl) ?_⟩
    intro d hdz
    refine ⟨rfl, q d ?_⟩
    simp only [List.cons_append, List.nil_append, List.mem_cons, List.not_mem_nil, or_false] at hdz
    rcases hdz with rfl | rfl | rfl | rfl | rfl | rfl
    · exact (ok2 st o1).mono (by decide) (by decide)
    · exact Ok.mono ok1 (by decide) (by decide)
    · exact (ok2 st o2).mono (by decide) (by decide)
    · exact (ok2 st o3).mono (by decide) (by decide)
    · exact (ok2 st o4).mono (by decide) (by decide)
    · refine (okt (n := 5) (k := 1) (Ok.mono st (by decide) (by decide)) ?_).mono (by decide) (by decide)
      exact Ok.tup (m := 4) (n := 1) (k := 0) (by omega) py
theorem lst_py {w : W} {xs : List PD} (e : w.lst = some xs) : w.py = some (.list xs) := by
  cases w with
  | l ys =>
    obtain rfl := Option.some.inj e
    rfl
  | bag => cases e
  | d z =>
    cases z <;> try cases e
    rfl
structure Cs (cs : List (Str × PD)) : Prop where
  n : cs.length ≤ 4
  nm : ∀ c ∈ cs, c.1 ∈ STRS
  so : ∀ c ∈ cs, Ok 4 1 c.2
def fCheck : Fm := fun ws Q => ∃ w cs, ws = [.bag, w] ∧ w.lst = some (cs.map DD.pairD) ∧ Cs cs ∧ ∀ d, Ok 60 8 d → Q (.d d)
theorem Cs.ok {cs : List (Str × PD)} (h : Cs cs) : Ok 37 3 (.list (cs.map DD.pairD)) := by
  refine Ok.lst (m := 4) (n := 9) (k := 2) (by rw [List.length_map]; exact h.n) ?_
  intro x hxz
  obtain ⟨c, hc, rfl⟩ := List.mem_map.mp hxz
  exact ok_pair (n := 4) (h.nm c hc) (h.so c hc) (by decide)
theorem ok_nil : Ok 1 1 (.list []) := ⟨rfl, by decide, by decide⟩
theorem w_check (ws Q) (h : fCheck ws Q) : bodyW 4 (m_law_check takeF fSome) ws Q := by
  obtain ⟨w, cs, rfl, e, ok, q⟩ := h
  have first : ∀ Qr : W → Prop, (∀ d, Ok 60 8 d → Qr (.d d)) → callW 2 fSome (consW (varW 0) (consW (lW (lstW (consW (tupW (consW (conW (.str "true")) nilW)) (consW (tupW (consW (conW (.str "true")) nilW)) (consW (tupW (consW (conW (.str "<")) (consW (tupW (consW (conW (.str "num")) (consW (negW (conW (.int 90))) nilW))) (consW (tupW (consW (conW (.str "key")) nilW)) nilW)))) nilW))))) nilW)) [E.v W.bag, E.v w, E.un, E.un] Qr := by
    intro Qr k
    refine ⟨_, rfl, _, rfl, sz rfl, _, rfl, sz rfl, _, rfl, _, rfl, sz rfl, _, rfl, sz rfl, _, rfl, sz rfl, _, rfl, sz rfl, rfl, some_of rfl (by simp) (ln rfl) ?_⟩
    intro d hdz
    refine k d ?_
    simp only [List.mem_cons, List.not_mem_nil, or_false] at hdz
    rcases hdz with rfl | rfl | rfl
    · exact Ok.mono ok1 (by decide) (by decide)
    · exact Ok.mono ok1 (by decide) (by decide)
    · exact (okt3 (n := 4) (k := 1) (Ok.mono st (by decide) (by decide)) (ok2 st it) (Ok.mono ok1 (by decide) (by decide))).mono (by decide) (by decide)
  refine ⟨w, rfl, _, rfl, sz rfl, _, _, lst_py e, rfl, ok.ok.shaped, ok_nil.shaped, _, rfl, ?_⟩
  refine ite2 (fun _ => first _ fun d hdz => ⟨rfl, q d hdz⟩) (fun ne => ?_)
  refine ⟨_, rfl, rfl, (3 : Int), rfl, by decide, by decide, ?_⟩
  intro v v0 v1
  refine ⟨_, _, rfl, rfl, trivial, _, rfl, ?_⟩
  refine ite2 (fun _ => first _ fun d hdz => ⟨rfl, q d hdz⟩) (fun _ => ?_)
  have hne : cs.map DD.pairD ≠ [] := by
    intro z
    rw [z] at ne
    exact ne rfl
  refine ⟨_, rfl, w, rfl, rfl, some_of e hne (by rw [List.length_map]; have := ok.n; omega) ?_⟩
  intro x hxz
  obtain ⟨c, hc, rfl⟩ := List.mem_map.mp hxz
  have oc : Ok 4 1 (.tuple [.str "col", .str c.1]) := ok2 st (ok_str (ok.nm c hc))
  refine ⟨_, _, rfl, rfl, _, rfl, sz rfl, rfl, ?_⟩
  refine ⟨_, rfl, _, rfl, sz rfl, _, rfl, sz rfl, _, rfl, _, rfl, sz rfl, _, rfl, sz rfl, _, rfl, sz rfl, _, rfl, sz rfl, ?_⟩
  refine ⟨_, rfl, _, rfl, _, rfl, _, rfl, sz rfl, _, rfl, _, rfl, sz rfl, _, rfl, _, rfl, sz rfl, _, rfl, sz rfl, _, rfl, sz rfl, _, _, rfl, rfl, sz rfl, rfl, some_of rfl (by simp) (ln rfl) ?_⟩
  intro d hdz
  refine ⟨rfl, q d ?_⟩
  simp only [List.cons_append, List.nil_append, List.mem_cons, List.not_mem_nil, or_false] at hdz
  have s4 : ∀ {x : Str}, STRS.contains x = true → Ok 4 1 (.str x) := fun h => (st h).mono (by decide) (by decide)
  have s13 : ∀ {x : Str}, STRS.contains x = true → Ok 13 2 (.str x) := fun h => (st h).mono (by decide) (by decide)
  rcases hdz with rfl | rfl | rfl
  · exact (okt3 (s4 (by decide +kernel)) oc (ok2 st it)).mono (by decide) (by decide)
  · exact (okt (s13 (by decide +kernel)) (okt3 (s4 (by decide +kernel)) oc (ok2 st it))).mono (by decide) (by decide)
  · exact (okt3 (n := 13) (k := 2) (s13 (by decide +kernel)) ((okt (s4 (by decide +kernel)) oc).mono (by decide) (by decide)) (okt3 (s4 (by decide +kernel)) (ok2 st it) oc)).mono (by decide) (by decide)
end MM

set_option maxHeartbeats 3999999
namespace MM
open PySem PySem.Spec PyProof.Rows L2 GG DD LL
/-! ### names drawn and sorted -/
theorem cut_sub (xs : List PD) (lo hi : Option Int) : (DD.cutD xs lo hi).Sublist xs := by
  unfold DD.cutD
  exact (List.take_sublist _ _).trans (List.drop_sublist _ _)
theorem cut_hi (xs : List PD) {k : Int} (h : 0 ≤ k) : (DD.cutD xs none (some k)).length = min k.toNat xs.length := by
  obtain ⟨n, rfl⟩ := Int.eq_ofNat_of_zero_le h
  unfold DD.cutD
  rw [HT.sIx_none, HT.sIx_nat, List.drop_zero, Nat.sub_zero, List.length_take, Int.toNat_natCast]
  omega
theorem all_strs : ∀ {xs : List PD}, (∀ x ∈ xs, ∃ z : Str, x = .str z) → ∃ us : List Str, xs = us.map PyData.str
  | [], _ => ⟨[], rfl⟩
  | x :: xs, h => by
    obtain ⟨z, rfl⟩ := h x List.mem_cons_self
    obtain ⟨us, rfl⟩ := all_strs (xs := xs) fun y hy => h y (List.mem_cons_of_mem _ hy)
    exact ⟨z :: us, rfl⟩
theorem nodup_of_map {α β : Type} {f : α → β} : ∀ {xs : List α}, (xs.map f).Nodup → xs.Nodup
  | [], _ => List.nodup_nil
  | x :: xs, h => by
    rw [List.map_cons, List.nodup_cons] at h
    rw [List.nodup_cons]
    exact ⟨fun z => h.1 (List.mem_map_of_mem z), nodup_of_map h.2⟩
theorem names_drawn {zs : List Str} {ys : List PD} {lo hi : Option Int} (nd : zs.Nodup) (hpz : ys.Perm (zs.map PyData.str)) : ∃ ns : List Str, srt (DD.cutD ys lo hi) = ns.map PyData.str ∧ ns.Pairwise lt ∧ (∀ n ∈ ns, n ∈ zs) ∧ ns.length = (DD.cutD ys lo hi).length ∧
    PySem.W.AllAlike (DD.cutD ys lo hi) ∧ PySem.W.Sortable (DD.cutD ys lo hi) ∧ (∀ d ∈ DD.cutD ys lo hi, d.depth ≤ 32) := by
  have sub := cut_sub ys lo hi
  have mem : ∀ x ∈ DD.cutD ys lo hi, ∃ z ∈ zs, x = PyData.str z := by
    intro x hxz
    obtain ⟨z, hzz, rfl⟩ := List.mem_map.mp (hpz.mem_iff.mp (sub.subset hxz))
    exact ⟨z, hzz, rfl⟩
  obtain ⟨us, hu⟩ := all_strs (xs := DD.cutD ys lo hi) fun x hxz => by
    obtain ⟨z, _, e⟩ := mem x hxz
    exact ⟨z, e⟩
  have und : us.Nodup := by
    have h1 : ys.Nodup := hpz.nodup_iff.mpr (nodup_map_inj (fun x y e => PyData.str.inj e) nd)
    have h2 := h1.sublist sub
    rw [hu] at h2
    exact nodup_of_map h2
  have um : ∀ u ∈ us, u ∈ zs := by
    intro u h
    obtain ⟨z, hzz, e⟩ := mem (.str u) (by rw [hu]; exact List.mem_map_of_mem h)
    obtain rfl := PyData.str.inj e
    exact hzz
  have es : srt (DD.cutD ys lo hi) = (us.mergeSort fun a b => decide (a.cps.toList ≤ b.cps.toList)).map PyData.str := by
    rw [hu]
    unfold srt
    refine (List.map_mergeSort (r := fun a b : Str => decide (a.cps.toList ≤ b.cps.toList)) (s := PySem.W.dataLe false id) (f := PyData.str) ?_).symm
    intro x _ y _
    have := congrFun (congrFun (PySem.W.dataLe_str (β := Str) fun p => p) x) y
    rw [← this]
    rfl
  refine ⟨us.mergeSort fun a b => decide (a.cps.toList ≤ b.cps.toList), es, ?_, ?_, ?_, ?_, ?_, ?_⟩
  · have pw : (us.mergeSort fun a b => decide (a.cps.toList ≤ b.cps.toList)).Pairwise fun a b => decide (a.cps.toList ≤ b.cps.toList) = true := by
      refine List.pairwise_mergeSort ?_ ?_ us
      · intro a b c h1 h2
        exact decide_eq_true (List.le_trans (of_decide_eq_true h1) (of_decide_eq_true h2))
      · intro a b
        rw [Bool.or_eq_true]
        rcases List.le_total a.cps.toList b.cps.toList with z | z
        · exact .inl (decide_eq_true z)
        · exact .inr (decide_eq_true z)
    have ndm : (us.mergeSort fun a b => decide (a.cps.toList ≤ b.cps.toList)).Nodup := (List.mergeSort_perm us _).nodup_iff.mpr und
    refine (pw.and ndm).imp ?_
    rintro a b ⟨h1, h2⟩
    have le := of_decide_eq_true h1
    rcases Classical.em (lt a b) with z | z
    · exact z
    · exfalso
      apply h2
      have ge : b.cps.toList ≤ a.cps.toList := List.not_lt.mp z
      have e : a.cps.toList = b.cps.toList := List.le_antisymm le ge
      cases a with
      | mk ca =>
        cases b with
        | mk cb =>
          congr 1
          exact Array.toList_inj.mp e
  · intro n hnz
    exact um n (List.mem_mergeSort.mp hnz)
  · rw [List.length_mergeSort, hu, List.length_map]
  · intro x hxz y hy
    obtain ⟨a, _, rfl⟩ := mem x hxz
    obtain ⟨c, _, rfl⟩ := mem y hy
    simp [PySem.W.alike]
  · refine .inr fun x hxz => ?_
    obtain ⟨a, _, rfl⟩ := mem x hxz
    exact ⟨(fun z => by cases z), (fun xs z => by cases z)⟩
  · intro x hxz
    obtain ⟨a, _, rfl⟩ := mem x hxz
    simp [PyData.depth]
def zCols : List Str := ["m", "n", "p", "q2"]
def zTabs : List Str := ["a", "bird", "c1", "d", "e"]
theorem zCols_ok : zCols.Nodup ∧ ∀ z ∈ zCols, z ∈ STRS := ⟨by decide +kernel, by decide +kernel⟩
theorem zTabs_ok : zTabs.Nodup ∧ ∀ z ∈ zTabs, z ∈ STRS := ⟨by decide +kernel, by decide +kernel⟩
/-! ### any table -/
end MM

set_option maxHeartbeats 3999999
namespace MM
open PySem PySem.Spec PyProof.Rows L2 GG DD LL
def fSchema : Fm := fun ws Q => ∃ m : Int, 1 ≤ m ∧ m ≤ 4 ∧ ws = [.bag, .d (.int m)] ∧ ∀ s, Gd s → Q (.d (sD s))
/-- a drawn rule -/
def IsRule (r : PD) : Prop := ∃ x y z : Str, x ∈ STRS ∧ y ∈ STRS ∧ z ∈ STRS ∧ r = .tuple [.str x, .str y, .str z]
theorem rules_srt {rs : List PD} (h : ∀ r ∈ rs, IsRule r) : PySem.W.AllAlike rs ∧ PySem.W.Sortable rs ∧ ∀ r ∈ rs, r.depth ≤ 32 := by
  refine ⟨?_, .inl fun r hr => ?_, fun r hr => ?_⟩
  · intro r hr r' hr'
    obtain ⟨x, y, z, _, _, _, rfl⟩ := h r hr
    obtain ⟨x', y', z', _, _, _, rfl⟩ := h r' hr'
    simp [PySem.W.alike, PySem.W.alikeAll]
  · obtain ⟨x, y, z, _, _, _, rfl⟩ := h r hr
    exact ⟨_, _, rfl⟩
  · obtain ⟨x, y, z, _, _, _, rfl⟩ := h r hr
    simp [PyData.depth, PyData.depthAll]
theorem rules_ok {rs : List PD} (h : ∀ r ∈ rs, IsRule r) (hlz0 : rs.length ≤ 5) : Ok 60 8 (.tuple (srt rs)) := by
  refine (Ok.tup (m := 5) (n := 4) (k := 1) (by unfold srt; rw [List.length_mergeSort]; exact hlz0) ?_).mono (by decide) (by decide)
  intro r hr
  obtain ⟨x, y, z, hxz, hy, hzz, rfl⟩ := h r (List.mem_mergeSort.mp hr)
  exact (okt3 (ok_str hxz) (ok_str hy) (ok_str hzz)).mono (by decide) (by decide)
theorem cut_last (xs : List PD) : DD.cutD xs none (some (-1)) = xs.take (xs.length - 1) := by
  unfold DD.cutD
  rw [HT.sIx_none, List.drop_zero, Nat.sub_zero]
  congr 1
  show (if (-1 : Int) < 0 then ((-1 : Int) + (xs.length : Int)).toNat else min ((-1 : Int)).toNat xs.length) = xs.length - 1
  rw [if_pos (by decide)]
  omega
theorem w_schema (ws Q) (h : fSchema ws Q) : bodyW 11 (m_law_schema fMixed takeF fSome fCheck) ws Q := by
  obtain ⟨m, m1, m2, rfl, q⟩ := h
  refine ⟨_, rfl, _, rfl, sz rfl, rfl, zTabs.map PyData.str, rfl, ln rfl, ?_⟩
  intro ys hpz
  refine ⟨_, rfl, _, rfl, rfl, m, rfl, m1, by omega, ?_⟩
  intro v v0 v1
  refine ⟨_, _, rfl, rfl, trivial, _, rfl, ?_⟩
  obtain ⟨ns, es, inc, mem, len, al, so, dp⟩ := names_drawn (lo := none) (hi := some (1 + v)) zTabs_ok.1 hpz
  have yl : ys.length = 5 := hpz.length_eq
  have nl : ns.length ≤ 5 ∧ 1 ≤ ns.length := by
    rw [len, cut_hi _ (by omega)]
    omega
  have nok : ∀ n ∈ ns, n ∈ STRS := fun n hnz => zTabs_ok.2 n (mem n hnz)
  have hne : ns.map PyData.str ≠ [] := by
    intro z
    have := congrArg List.length z
    rw [List.length_map, List.length_nil] at this
    omega
  refine ⟨_, rfl, _, _, rfl, rfl, al, so, dp, ?_⟩
  rw [es]
  refine ⟨_, rfl, sz rfl, _, rfl, _, rfl, ?_⟩
  rw [List.map_map]
  refine loop_over (fun n => WI.d (PyData.str n)) (fun i env => ∃ (ts : List (Str × Tab)) (os : List PD) (e4 e5 e6 e7 e8 : E), env = [.v .bag, .v (.d (.int m)), .v (.d (.list (ns.map PyData.str))), .own os, e4, e5, e6, e7, e8, .un, .un] ∧ os = ts.map tabP ∧ ts.map Prod.fst = ns.take i ∧ ∀ p ∈ ts, TabOk p.2) ns 0 _ _ ?_
    ⟨[], [], .un, .un, .un, .un, .un, rfl, rfl, rfl, fun _ z => by cases z⟩ ?_
  · rintro i n env hi ⟨ts, os, e4, e5, e6, e7, e8, rfl, rfl, et, okts⟩ Qo k
    rw [Nat.zero_add] at et k
    have hnz : n ∈ ns := List.mem_of_getElem? hi
    refine ⟨_, rfl, _, rfl, sz rfl, ?_⟩
    -- for column in sorted(..)
    refine ⟨_, rfl, _, rfl, sz rfl, rfl, zCols.map PyData.str, rfl, ln rfl, ?_⟩
    intro zs hzz
    refine ⟨_, rfl, _, rfl, sz rfl, rfl, some_of rfl (by simp) (ln rfl) ?_⟩
    intro kk hk
    obtain ⟨k0, k1, rfl⟩ : ∃ j : Int, 0 ≤ j ∧ kk = .int j := by
      simp only [List.mem_cons, List.not_mem_nil, or_false] at hk
      rcases hk with rfl | rfl | rfl | rfl | rfl <;> exact ⟨_, by decide, rfl⟩
    obtain ⟨cn, ec, cinc, cmem, clen, cal, cso, cdp⟩ := names_drawn (lo := none) (hi := some k0) zCols_ok.1 hzz
    have cl : cn.length ≤ 4 := by
      rw [clen, cut_hi _ k1]
      have : zs.length = 4 := hzz.length_eq
      omega
    refine ⟨_, rfl, _, rfl, _, _, rfl, rfl, cal, cso, cdp, _, rfl, ?_⟩
    rw [ec, List.map_map]
    refine loop_over (fun c => WI.d (PyData.str c)) (fun j env => ∃ (cs : List (Str × PD)) (os : List PD) (e6 e7 e8 : E), env = [.v .bag, .v (.d (.int m)), .v (.d (.list (ns.map PyData.str))), .own (ts.map tabP), .v (.d (.str n)), .own os, e6, e7, e8, .un, .un] ∧ os = cs.map DD.pairD ∧ cs.map Prod.fst = cn.take j ∧ ∀ c ∈ cs, IsSort c.2 ∧ Ok 4 1 c.2) cn 0 _ _ ?_
      ⟨[], [], e6, e7, e8, rfl, rfl, rfl, fun _ z => by cases z⟩ ?_
    · rintro j c env hj ⟨cs, os, e6, e7, e8, rfl, rfl, ecs, okcs⟩ Qo' k'
      rw [Nat.zero_add] at ecs k'
      have hc : c ∈ cn := List.mem_of_getElem? hj
      refine ⟨_, rfl, _, rfl, _, rfl, rfl, some_of rfl hne (by rw [List.length_map]; omega) ?_⟩
      intro ot hot
      obtain ⟨o, hoz, rfl⟩ := List.mem_map.mp hot
      refine ⟨rfl, ?_⟩
      refine ⟨_, rfl, sz rfl, _, rfl, sz rfl, _, rfl, _, rfl, sz rfl, rfl, some_of rfl (by simp) (ln rfl) ?_⟩
      intro x hxz
      obtain ⟨xi, xo, rfl⟩ : ∃ xi : Int, Ok 1 0 (.int xi) ∧ x = .int xi := by
        simp only [List.mem_cons, List.not_mem_nil, or_false] at hxz
        rcases hxz with rfl | rfl | rfl <;> exact ⟨_, it, rfl⟩
      refine ⟨_, rfl, sz rfl, _, rfl, _, rfl, sz rfl, _, rfl, _, rfl, sz rfl, _, rfl, sz rfl, ?_⟩
      refine ⟨_, rfl, _, rfl, _, rfl, _, rfl, rfl, some_of rfl (by simp) (ln rfl) ?_⟩
      intro d hdz
      have okd : IsSort d ∧ Ok 4 1 d := by
        simp only [List.mem_cons, List.not_mem_nil, or_false] at hdz
        have oki : Ok 4 1 (.tuple [.str "int"]) := ⟨by decide +kernel, by decide, by decide⟩
        rcases hdz with rfl | rfl | rfl | rfl | rfl
        · exact ⟨.inl rfl, oki⟩
        · exact ⟨.inl rfl, oki⟩
        · exact ⟨.inr (.inl ⟨_, rfl⟩), ok2 st xo⟩
        · exact ⟨.inr (.inr (.inl ⟨_, rfl⟩)), ok2 st (ok_str (nok o hoz))⟩
        · exact ⟨.inr (.inr (.inr ⟨_, rfl⟩)), ok2 st (ok_str (nok o hoz))⟩
      have csl : cs.length ≤ 4 := by
        have := congrArg List.length ecs
        rw [List.length_map, List.length_take] at this
        omega
      refine ⟨_, rfl, sz rfl, _, rfl, by rw [List.length_map, sizeLine_eq]; omega, k' _ ⟨cs ++ [(c, d)], _, _, _, _, rfl, ?_, ?_, ?_⟩⟩
      · rw [List.map_append]
        rfl
      · rw [List.map_append, ecs, List.take_add_one, hj]
        rfl
      · intro c' hc'
        rcases List.mem_append.mp hc' with hc' | hc'
        · exact okcs c' hc'
        · obtain rfl := List.mem_singleton.mp hc'
          exact okd
    · rintro env ⟨cs, os, e6, e7, e8, rfl, rfl, ecs, okcs⟩
      rw [Nat.zero_add, List.take_length] at ecs
      have csl : cs.length ≤ 4 := by
        have := congrArg List.length ecs
        rw [List.length_map] at this
        omega
      have cnm : ∀ c ∈ cs, c.1 ∈ STRS := by
        intro c hc
        have : c.1 ∈ cn := ecs ▸ List.mem_map_of_mem hc
        exact zCols_ok.2 _ (cmem _ this)
      have tl : ts.length ≤ 5 := by
        have := congrArg List.length et
        rw [List.length_map, List.length_take] at this
        omega
      refine ⟨_, rfl, _, rfl, _, rfl, _, _, rfl, .inl rfl, _, rfl, _, rfl, rfl, _, cs, rfl, rfl, ⟨csl, cnm, fun c hc => (okcs c hc).2⟩, ?_⟩
      intro ck ock
      refine ⟨_, rfl, sz rfl, _, rfl, sz rfl, _, rfl, by rw [List.length_map, sizeLine_eq]; omega, k _ ⟨ts ++ [(n, ⟨cs, ck⟩)], _, _, _, _, _, _, rfl, ?_, ?_, ?_⟩⟩
      · rw [List.map_append]
        rfl
      · rw [List.map_append, et, List.take_add_one, hi]
        rfl
      · intro p hp'
        rcases List.mem_append.mp hp' with hp' | hp'
        · exact okts p hp'
        · obtain rfl := List.mem_singleton.mp hp'
          exact ⟨csl, by rw [ecs]; exact cinc, cnm, okcs, ock⟩
  · rintro env ⟨ts, os, e4, e5, e6, e7, e8, rfl, rfl, et, okts⟩
    rw [Nat.zero_add, List.take_length] at et
    have tl : ts.length = ns.length := by
      have := congrArg List.length et
      rwa [List.length_map] at this
    refine ⟨_, rfl, sz rfl, ?_⟩
    refine ⟨_, rfl, _, rfl, _, rfl, _, rfl, _, rfl, ?_⟩
    rw [cut_last, List.mapIdx_eq_zipIdx_map]
    refine loop_over (fun a : PD × Nat => WI.p (PyData.int (a.2 : Nat)) a.1) (fun j env => ∃ (rs : List PD) (e4 e10 : E), env = [.v .bag, .v (.d (.int m)), .v (.d (.list (ns.map PyData.str))), .own (ts.map tabP), e4, e5, e6, e7, e8, .own rs, e10] ∧ rs.length ≤ j ∧ ∀ r ∈ rs, IsRule r) _ 0 _ _ ?_
      ⟨[], e4, .un, rfl, Nat.le_refl _, fun _ z => by cases z⟩ ?_
    · rintro j a env hj ⟨rs, e4, e10, rfl, rl, okrs⟩ Qo k
      rw [Nat.zero_add] at rl k
      rw [List.getElem?_zipIdx] at hj
      cases ex : ((ns.map PyData.str).take ((ns.map PyData.str).length - 1))[j]? with
      | none =>
        rw [ex] at hj
        cases hj
      | some x =>
        rw [ex] at hj
        have hj := Option.some.inj hj
        have jl : j < ns.length - 1 := by
          have := (List.getElem?_eq_some_iff.mp ex).1
          rw [List.length_take, List.length_map] at this
          omega
        obtain ⟨n, hnz, rfl⟩ : ∃ n ∈ ns, x = PyData.str n := by
          obtain ⟨n, hnz, e⟩ := List.mem_map.mp (List.mem_of_mem_take (List.mem_of_getElem? ex))
          exact ⟨n, hnz, e.symm⟩
        have hj : ((PyData.str n, 0 + j) : PD × Nat) = a := hj
        rw [Nat.zero_add] at hj
        subst hj
        refine ⟨_, rfl, rfl, _, _, rfl, ⟨_, rfl, _, _, rfl, ⟨_, rfl, rfl, ?_⟩⟩⟩
        refine ⟨_, rfl, rfl, (4 : Int), rfl, by decide, by decide, ?_⟩
        intro u u0 u1
        refine ⟨_, _, rfl, rfl, (ok_int (by omega) (by omega)).shaped, (ok_int (by decide) (by decide)).shaped, _, rfl, ?_⟩
        refine ite2 (fun _ => ?_) (fun _ => k _ ⟨rs, _, _, rfl, by omega, okrs⟩)
        refine ⟨_, rfl, _, rfl, _, rfl, sz rfl, rfl, some_of rfl (by simp) (ln rfl) ?_⟩
        intro kd hkd
        obtain ⟨kn, hkn, rfl⟩ : ∃ kn : Str, kn ∈ STRS ∧ kd = .str kn := by
          simp only [List.mem_cons, List.not_mem_nil, or_false] at hkd
          rcases hkd with rfl | rfl
          · exact ⟨_, List.contains_iff_mem.mp (show STRS.contains ("apart" : Str) = true by decide +kernel), rfl⟩
          · exact ⟨_, List.contains_iff_mem.mp (show STRS.contains ("same" : Str) = true by decide +kernel), rfl⟩
        obtain ⟨nx, hnx, enx⟩ := at_of (xs := ns.map PyData.str) (i := (j : Int) + 1) (by omega) (by rw [List.length_map]; omega)
        obtain ⟨m, hmz, rfl⟩ := List.mem_map.mp hnx
        refine ⟨_, rfl, _, rfl, _, rfl, _, _, rfl, rfl, trivial, _, _, rfl, enx, _, rfl, sz rfl, _, rfl, by rw [sizeLine_eq]; omega, k _ ⟨_, _, _, rfl, ?_, ?_⟩⟩
        · rw [List.length_append, List.length_singleton]
          omega
        · intro r hr
          rcases List.mem_append.mp hr with hr | hr
          · exact okrs r hr
          · obtain rfl := List.mem_singleton.mp hr
            exact ⟨kn, n, m, hkn, nok n hnz, nok m hmz, rfl⟩
    · rintro env ⟨rs, e4, e10, rfl, rl, okrs⟩
      rw [Nat.zero_add, List.length_zipIdx, List.length_take, List.length_map] at rl
      obtain ⟨ra, rb, rc⟩ := rules_srt okrs
      refine ⟨_, rfl, _, _, rfl, .inl rfl, _, rfl, _, _, rfl, rfl, ra, rb, rc, _, _, rfl, .inl rfl, _, rfl, sz rfl, rfl, q ⟨ts, .tuple (srt rs)⟩ ⟨by show ts.length ≤ 6; omega, by show (ts.map Prod.fst).Pairwise lt; rw [et]; exact inc, ?_, okts, rules_ok okrs (by omega), (fun z => by have z : ts = [] := z; rw [z, List.length_nil] at tl; omega), ?_⟩⟩
      · intro p hp'
        have : p.1 ∈ ns := et ▸ List.mem_map_of_mem hp'
        exact nok _ this
      · intro z
        have z : ("zz" : Str) ∈ ns := et ▸ z
        exact absurd (mem _ z) (by decide +kernel)
end MM

set_option maxHeartbeats 3999999
/-! scalars, ways -/
namespace MM
open PySem PySem.Spec PyProof.Rows L2 GG DD LL
/-- what is told: an int of at most some 1900 bits, None, a truth -/
def Sc : PD → Prop
  | .int i => i.natAbs.log2 < 1920
  | .none => True
  | .bool _ => True
  | _ => False
theorem sc_int {i : Int} (h : i.natAbs.log2 < 1920) : Sc (.int i) := h
theorem log_small {i : Int} (h1 : -(2 ^ 100) < i := by omega) (h2 : i < 2 ^ 100 := by omega) : i.natAbs.log2 < 1920 := by
  by_cases z : i.natAbs = 0
  · rw [z]
    decide
  · have : i.natAbs < 2 ^ 100 := by omega
    have := (Nat.log2_lt z).mpr this
    omega
theorem shaped_int (i : Int) : SeqAt.shaped (.int i) = true := rfl
theorem shaped_none : SeqAt.shaped .none = true := rfl
theorem shaped_bool (c : Bool) : SeqAt.shaped (.bool c) = true := rfl
theorem eqv_int (i j : Int) : PyData.eqv (.int i) (.int j) = decide (i = j) := by
  by_cases h : i = j <;> simp [PyData.eqv, h]
theorem Sc.shaped {d : PD} (h : Sc d) : SeqAt.shaped d = true := by
  cases d <;> first | rfl | exact h.elim
theorem Sc.eqv {d : PD} (h : Sc d) : PyData.eqv d d = true := by
  cases d <;> first | exact h.elim | simp [PyData.eqv]
theorem Sc.show {d : PD} (h : Sc d) : d.showable = true ∧ d.hasDict = false ∧ d.depth ≤ 32 ∧ d.shown.length ≤ sizeLine := by
  cases d with
  | none => exact ⟨rfl, rfl, by decide, by decide +kernel⟩
  | bool c => cases c <;> exact ⟨rfl, rfl, by decide, by decide +kernel⟩
  | int i => exact ⟨decide_eq_true h, rfl, by simp [PyData.depth], int_text_fits h⟩
  | str x => exact h.elim
  | list xs => exact h.elim
  | tuple xs => exact h.elim
  | dict xs => exact h.elim
def fSame : Fm := fun ws Q => ∃ d, ws = [.d d, .d d] ∧ Sc d ∧ Q (.d (.bool true))
theorem w_same (ws Q) (h : fSame ws Q) : bodyW 2 m_law_alike ws Q := by
  obtain ⟨d, rfl, ok, q⟩ := h
  refine ⟨_, rfl, _, rfl, d, d, rfl, rfl, ok.shaped, ok.shaped, _, rfl, ?_⟩
  rw [ok.eqv]
  refine yt ?_
  obtain ⟨sh, nd, dp, sz'⟩ := ok.show
  refine ⟨_, rfl, _, d, rfl, rfl, sh, nd, dp, sz', _, rfl, _, d, rfl, rfl, sh, nd, dp, sz', _, _, rfl, rfl, rfl, ?_⟩
  rw [decide_eq_true rfl]
  exact q
/-! ### ways -/
inductive Way where
  | plus (n : Int)
  | turned
  | times (n : Int)
  | over (n : Int)
  | rest (n : Int)
  | list (xs : List Int)
def wayD : Way → PD
  | .plus n => .tuple [.str "plus", .int n]
  | .turned => .tuple [.str "turned"]
  | .times n => .tuple [.str "times", .int n]
  | .over n => .tuple [.str "over", .int n]
  | .rest n => .tuple [.str "rest", .int n]
  | .list xs => .tuple [.str "list", .tuple (xs.map PyData.int)]
def WayOk : Way → Prop
  | .plus n => -1000 ≤ n ∧ n ≤ 1000
  | .turned => True
  | .times n => -1000 ≤ n ∧ n ≤ 1000
  | .over n => 1 ≤ n ∧ n ≤ 1000
  | .rest n => 1 ≤ n ∧ n ≤ 1000
  | .list xs => xs.length ≤ 9 ∧ ∀ x ∈ xs, -1000 ≤ x ∧ x ≤ 1000
def optD : Option Int → PD
  | some i => .int i
  | none => .none
def ledI : Way → Int → Option Int
  | .plus n, x => some (x + n)
  | .turned, x => some (-x)
  | .times n, x => some (x * n)
  | .over n, x => some (x.fdiv n)
  | .rest n, x => some (x.fmod n)
  | .list xs, x => if 0 ≤ x ∧ x < xs.length then xs[x.toNat]? else none
theorem cmul_r {i j : Int} (h1 : -1000 ≤ j) (h2 : j ≤ 1000) : CMul i j := .inr ⟨by omega, by omega⟩
theorem cdiv_r {i j : Int} (h1 : 1 ≤ j) (h2 : j ≤ 1000) : CDivN i j := ⟨by omega, by omega⟩
/-- a test of two texts, both told -/
theorem txt {A B : Prop} {x y : Str} (h : x = y → A) (h' : x ≠ y → B) : if decide (x = y) = true then A else B := by
  by_cases e : x = y
  · rw [if_pos (decide_eq_true e)]
    exact h e
  · rw [if_neg (by simpa using e)]
    exact h' e
theorem yes {A B : Prop} {c : Bool} (e : c = true) (h : A) : if c = true then A else B := by
  rw [if_pos e]
  exact h
theorem no {A B : Prop} {c : Bool} (e : c = false) (h : B) : if c = true then A else B := by
  rw [if_neg (by rw [e]; exact Bool.false_ne_true)]
  exact h
def fLed : Fm := fun ws Q => ∃ wy x, ws = [.d (wayD wy), .d (.int x)] ∧ WayOk wy ∧ Q (.d (optD (ledI wy x)))
theorem w_led (ws Q) (h : fLed ws Q) : bodyW 2 mled ws Q := by
  obtain ⟨wy, x, rfl, ok, q⟩ := h
  have t : ∀ (a b : Str) (c : Bool), decide (a = b) = c → decide (a = b) = c := fun _ _ _ h => h
  cases wy with
  | plus n =>
    refine ⟨_, rfl, _, _, rfl, rfl, _, _, rfl, rfl, _, rfl, yes (by decide +kernel) ?_⟩
    exact ⟨_, rfl, _, rfl, _, _, rfl, rfl, _, _, rfl, rfl, trivial, rfl, q⟩
  | turned =>
    refine ⟨_, rfl, _, _, rfl, rfl, _, _, rfl, rfl, _, rfl, no (by decide +kernel) ?_⟩
    refine ⟨_, rfl, _, _, rfl, rfl, _, _, rfl, rfl, _, rfl, yes (by decide +kernel) ?_⟩
    exact ⟨_, rfl, _, rfl, rfl, q⟩
  | times n =>
    refine ⟨_, rfl, _, _, rfl, rfl, _, _, rfl, rfl, _, rfl, no (by decide +kernel) ?_⟩
    refine ⟨_, rfl, _, _, rfl, rfl, _, _, rfl, rfl, _, rfl, no (by decide +kernel) ?_⟩
    refine ⟨_, rfl, _, _, rfl, rfl, _, _, rfl, rfl, _, rfl, yes (by decide +kernel) ?_⟩
    exact ⟨_, rfl, _, rfl, _, _, rfl, rfl, _, _, rfl, rfl, cmul_r ok.1 ok.2, rfl, q⟩
  | over n =>
    refine ⟨_, rfl, _, _, rfl, rfl, _, _, rfl, rfl, _, rfl, no (by decide +kernel) ?_⟩
    refine ⟨_, rfl, _, _, rfl, rfl, _, _, rfl, rfl, _, rfl, no (by decide +kernel) ?_⟩
    refine ⟨_, rfl, _, _, rfl, rfl, _, _, rfl, rfl, _, rfl, no (by decide +kernel) ?_⟩
    refine ⟨_, rfl, _, _, rfl, rfl, _, _, rfl, rfl, _, rfl, yes (by decide +kernel) ?_⟩
    exact ⟨_, rfl, _, rfl, _, _, rfl, rfl, _, _, rfl, rfl, cdiv_r ok.1 ok.2, rfl, q⟩
  | rest n =>
    refine ⟨_, rfl, _, _, rfl, rfl, _, _, rfl, rfl, _, rfl, no (by decide +kernel) ?_⟩
    refine ⟨_, rfl, _, _, rfl, rfl, _, _, rfl, rfl, _, rfl, no (by decide +kernel) ?_⟩
    refine ⟨_, rfl, _, _, rfl, rfl, _, _, rfl, rfl, _, rfl, no (by decide +kernel) ?_⟩
    refine ⟨_, rfl, _, _, rfl, rfl, _, _, rfl, rfl, _, rfl, no (by decide +kernel) ?_⟩
    refine ⟨_, rfl, _, _, rfl, rfl, _, _, rfl, rfl, _, rfl, yes (by decide +kernel) ?_⟩
    have h1 : 1 ≤ n := ok.1
    exact ⟨_, rfl, _, rfl, _, _, rfl, rfl, _, _, rfl, rfl, (by omega : n ≠ 0), rfl, q⟩
  | list xs =>
    refine ⟨_, rfl, _, _, rfl, rfl, _, _, rfl, rfl, _, rfl, no (by decide +kernel) ?_⟩
    refine ⟨_, rfl, _, _, rfl, rfl, _, _, rfl, rfl, _, rfl, no (by decide +kernel) ?_⟩
    refine ⟨_, rfl, _, _, rfl, rfl, _, _, rfl, rfl, _, rfl, no (by decide +kernel) ?_⟩
    refine ⟨_, rfl, _, _, rfl, rfl, _, _, rfl, rfl, _, rfl, no (by decide +kernel) ?_⟩
    refine ⟨_, rfl, _, _, rfl, rfl, _, _, rfl, rfl, _, rfl, no (by decide +kernel) ?_⟩
    refine ⟨_, rfl, _, _, rfl, rfl, trivial, _, rfl, ?_⟩
    by_cases h0 : 0 ≤ x
    · refine yes (decide_eq_true h0) ?_
      refine ⟨_, rfl, _, _, rfl, rfl, _, xs.length, rfl, .inr (.inl (by rw [← List.length_map (f := PyData.int)]; rfl)), _, _, rfl, rfl, trivial, _, rfl, ?_⟩
      by_cases h1 : x < (xs.length : Int)
      · refine yes (decide_eq_true h1) ?_
        have e : ledI (.list xs) x = xs[x.toNat]? := if_pos ⟨h0, h1⟩
        have hlz0 : x.toNat < xs.length := by omega
        rw [e, List.getElem?_eq_getElem hlz0] at q
        refine ⟨_, rfl, _, _, rfl, rfl, _, rfl, _, _, rfl, ?_, rfl, q⟩
        show atI (xs.map PyData.int) x = some (PyData.int xs[x.toNat])
        unfold atI ixN
        rw [if_pos h0, List.length_map, if_pos h1]
        show (xs.map PyData.int)[x.toNat]? = _
        rw [List.getElem?_map, List.getElem?_eq_getElem hlz0]
        rfl
      · refine no (decide_eq_false h1) ?_
        have e : ledI (.list xs) x = none := if_neg fun z => h1 z.2
        rw [e] at q
        exact ⟨rfl, q⟩
    · refine no (decide_eq_false h0) ⟨_, rfl, no rfl ?_⟩
      have e : ledI (.list xs) x = none := if_neg fun z => h0 z.1
      rw [e] at q
      exact ⟨rfl, q⟩
end MM

set_option maxHeartbeats 3999999
/-! the law's own reckoning of ways -/
namespace MM
open PySem PySem.Spec PyProof.Rows L2 GG DD LL
theorem look_num {x : Int} : ∀ {ds : List PD} {n : Nat}, lookD (.inl x) (numD n ds) = if (n : Int) ≤ x ∧ x < n + ds.length then ds[(x - n).toNat]? else none
  | [], n => by
    rw [if_neg (by simp only [List.length_nil]; omega)]
    rfl
  | d :: ds, n => by
    unfold numD lookD
    have e0 : isKey (.inl x) (.int (n : Int)) = decide ((n : Int) = x) := rfl
    rw [e0]
    by_cases h : (n : Int) = x
    · rw [if_pos (decide_eq_true h), if_pos (by rw [List.length_cons]; omega)]
      have : (x - n).toNat = 0 := by omega
      rw [this]
      rfl
    · rw [if_neg (by simpa using h), look_num (ds := ds) (n := n + 1)]
      by_cases h2 : (n : Int) ≤ x ∧ x < n + (d :: ds).length
      · rw [if_pos h2, if_pos (by rw [List.length_cons] at h2; omega)]
        have : (x - n).toNat = (x - ((n + 1 : Nat) : Int)).toNat + 1 := by omega
        rw [this, List.getElem?_cons_succ]
      · rw [if_neg h2, if_neg (by rw [List.length_cons] at h2; omega)]
theorem num_ne {n : Nat} : ∀ {ds : List PD}, numD n ds ≠ errP
  | [] => fun z => by cases z
  | d :: ds => fun z => by
    unfold numD errP at z
    injection z with z _
    injection z with z _
    cases z
theorem fdiv_rest {x n : Int} (h : 1 ≤ n) : (x - x.fmod n).fdiv n = x.fdiv n := by
  have e := Int.mul_fdiv_add_fmod x n
  have ez2 : x - x.fmod n = n * x.fdiv n := by omega
  rw [ez2, Int.mul_fdiv_cancel_left _ (by omega)]
def PT : List PD := [.str "plus", .str "times"]
theorem shPT : SeqAt.shaped (.tuple PT) = true := by decide +kernel
theorem w_due (ws Q) (h : fLed ws Q) : bodyW 4 m_law_due_led ws Q := by
  obtain ⟨wy, x, rfl, ok, q⟩ := h
  cases wy with
  | plus n =>
    refine ⟨_, rfl, _, _, rfl, rfl, rfl, _, rfl, _, _, rfl, rfl, _, rfl, no (by decide +kernel) ?_⟩
    refine ⟨_, rfl, _, _, rfl, rfl, _, rfl, no (by decide +kernel) ?_⟩
    refine ⟨_, rfl, _, rfl, sz rfl, _, _, rfl, rfl, by decide +kernel, by decide +kernel, _, rfl, yes (by decide +kernel) ?_⟩
    refine ⟨_, rfl, _, _, rfl, rfl, _, rfl, yes (by decide +kernel) ?_⟩
    refine ⟨_, rfl, _, rfl, _, _, rfl, rfl, _, rfl, sz rfl, _, [x, n], rfl, rfl, rfl, ?_⟩
    have e : [x, n].sum = x + n := by simp
    rw [e]
    exact q
  | turned =>
    refine ⟨_, rfl, _, _, rfl, rfl, rfl, _, rfl, _, _, rfl, rfl, _, rfl, no (by decide +kernel) ?_⟩
    refine ⟨_, rfl, _, _, rfl, rfl, _, rfl, yes (by decide +kernel) ?_⟩
    refine ⟨_, rfl, _, _, rfl, rfl, trivial, rfl, ?_⟩
    have e : (0 : Int) - x = -x := by omega
    show Q (.d (.int (0 - x)))
    rw [e]
    exact q
  | times n =>
    refine ⟨_, rfl, _, _, rfl, rfl, rfl, _, rfl, _, _, rfl, rfl, _, rfl, no (by decide +kernel) ?_⟩
    refine ⟨_, rfl, _, _, rfl, rfl, _, rfl, no (by decide +kernel) ?_⟩
    refine ⟨_, rfl, _, rfl, sz rfl, _, _, rfl, rfl, by decide +kernel, by decide +kernel, _, rfl, yes (by decide +kernel) ?_⟩
    refine ⟨_, rfl, _, _, rfl, rfl, _, rfl, no (by decide +kernel) ?_⟩
    exact ⟨_, rfl, _, rfl, _, _, rfl, rfl, _, _, rfl, rfl, cmul_r ok.1 ok.2, rfl, q⟩
  | over n =>
    refine ⟨_, rfl, _, _, rfl, rfl, rfl, _, rfl, _, _, rfl, rfl, _, rfl, no (by decide +kernel) ?_⟩
    refine ⟨_, rfl, _, _, rfl, rfl, _, rfl, no (by decide +kernel) ?_⟩
    refine ⟨_, rfl, _, rfl, sz rfl, _, _, rfl, rfl, by decide +kernel, by decide +kernel, _, rfl, no (by decide +kernel) ?_⟩
    have h1 : 1 ≤ n := ok.1
    refine ⟨_, rfl, x, rfl, _, rfl, _, _, rfl, rfl, _, _, rfl, rfl, (by omega : n ≠ 0), rfl, ?_⟩
    refine ⟨_, rfl, _, _, rfl, rfl, _, rfl, no (by decide +kernel) ?_⟩
    refine ⟨_, rfl, _, rfl, _, _, rfl, rfl, trivial, _, rfl, _, rfl, _, _, rfl, rfl, _, _, rfl, rfl, cdiv_r ok.1 ok.2, rfl, ?_⟩
    have e := fdiv_rest (x := x) h1
    show Q (.d (.int ((x - x.fmod n).fdiv n)))
    rw [e]
    exact q
  | rest n =>
    refine ⟨_, rfl, _, _, rfl, rfl, rfl, _, rfl, _, _, rfl, rfl, _, rfl, no (by decide +kernel) ?_⟩
    refine ⟨_, rfl, _, _, rfl, rfl, _, rfl, no (by decide +kernel) ?_⟩
    refine ⟨_, rfl, _, rfl, sz rfl, _, _, rfl, rfl, by decide +kernel, by decide +kernel, _, rfl, no (by decide +kernel) ?_⟩
    have h1 : 1 ≤ n := ok.1
    refine ⟨_, rfl, x, rfl, _, rfl, _, _, rfl, rfl, _, _, rfl, rfl, (by omega : n ≠ 0), rfl, ?_⟩
    refine ⟨_, rfl, _, _, rfl, rfl, _, rfl, yes (by decide +kernel) ?_⟩
    exact ⟨_, rfl, rfl, q⟩
  | list xs =>
    refine ⟨_, rfl, _, _, rfl, rfl, rfl, _, rfl, _, _, rfl, rfl, _, rfl, yes (by decide +kernel) ?_⟩
    refine ⟨_, rfl, _, _, rfl, rfl, _, rfl, _, rfl, num_ne, _, rfl, .inl x, rfl, rfl, ?_⟩
    rw [look_num, List.length_map]
    have e : ((if ((0 : Nat) : Int) ≤ x ∧ x < ((0 : Nat) : Int) + (xs.length : Int) then (xs.map PyData.int)[(x - ((0 : Nat) : Int)).toNat]? else none).getD PyData.none) = optD (ledI (.list xs) x) := by
      have ex : (x - ((0 : Nat) : Int)).toNat = x.toNat := by omega
      rw [ex, List.getElem?_map]
      by_cases h : 0 ≤ x ∧ x < xs.length
      · rw [if_pos (by omega)]
        have e : ledI (.list xs) x = xs[x.toNat]? := if_pos h
        rw [e]
        cases xs[x.toNat]? <;> rfl
      · rw [if_neg (by omega)]
        have e : ledI (.list xs) x = none := if_neg h
        rw [e]
        rfl
    rw [e]
    exact q
end MM

set_option maxHeartbeats 3999999
/-! ways drawn, ways held against their reckoning -/
namespace MM
open PySem PySem.Spec PyProof.Rows L2 GG DD LL
def IntIn (lo hi : Int) (d : PD) : Prop := ∃ n : Int, d = .int n ∧ lo ≤ n ∧ n ≤ hi
theorem intIn {lo hi n : Int} (h1 : lo ≤ n := by decide) (h2 : n ≤ hi := by decide) : IntIn lo hi (.int n) := ⟨n, rfl, h1, h2⟩
theorem ints_of {lo hi : Int} : ∀ {ys : List PD}, (∀ y ∈ ys, IntIn lo hi y) → ∃ zs : List Int, ys = zs.map PyData.int ∧ ∀ z ∈ zs, lo ≤ z ∧ z ≤ hi
  | [], _ => ⟨[], rfl, fun _ z => by cases z⟩
  | y :: ys, h => by
    obtain ⟨zs, e, k⟩ := ints_of (ys := ys) fun x hxz => h x (List.mem_cons_of_mem _ hxz)
    obtain ⟨n, rfl, n1, n2⟩ := h y List.mem_cons_self
    refine ⟨n :: zs, by rw [e]; rfl, ?_⟩
    intro z hzz
    rcases List.mem_cons.mp hzz with rfl | hzz
    · exact ⟨n1, n2⟩
    · exact k z hzz
def fAnyWay : Fm := fun ws Q => ws = [.bag] ∧ ∀ wy, WayOk wy → Q (.d (wayD wy))
theorem w_anyWay (ws Q) (h : fAnyWay ws Q) : bodyW 3 (m_law_any_way fSome takeF) ws Q := by
  obtain ⟨rfl, q⟩ := h
  refine ⟨_, rfl, _, rfl, _, rfl, sz rfl, rfl, some_of rfl (by simp) (ln rfl) ?_⟩
  intro x1 h1
  have o1 : IntIn (-1000) 1000 x1 := by
    simp only [List.mem_cons, List.not_mem_nil, or_false] at h1
    rcases h1 with rfl | rfl | rfl | rfl <;> exact intIn
  refine ⟨_, rfl, sz rfl, _, rfl, sz rfl, _, rfl, _, rfl, sz rfl, rfl, some_of rfl (by simp) (ln rfl) ?_⟩
  intro x2 h2
  have o2 : IntIn 1 1000 x2 := by
    simp only [List.mem_cons, List.not_mem_nil, or_false] at h2
    rcases h2 with rfl | rfl | rfl <;> exact intIn
  refine ⟨_, rfl, sz rfl, _, rfl, sz rfl, _, rfl, _, rfl, _, rfl, sz rfl, rfl, some_of rfl (by simp) (ln rfl) ?_⟩
  intro x3 h3
  have o3 : IntIn 1 1000 x3 := by
    simp only [List.mem_cons, List.not_mem_nil, or_false] at h3
    rcases h3 with rfl | rfl | rfl <;> exact intIn
  refine ⟨_, rfl, sz rfl, _, rfl, _, rfl, sz rfl, rfl, some_of rfl (by simp) (ln rfl) ?_⟩
  intro x4 h4
  have o4 : IntIn 1 1000 x4 := by
    simp only [List.mem_cons, List.not_mem_nil, or_false] at h4
    rcases h4 with rfl | rfl | rfl <;> exact intIn
  refine ⟨_, rfl, sz rfl, _, rfl, sz rfl, _, _, rfl, rfl, sz rfl, ?_⟩
  refine ⟨_, rfl, _, rfl, _, rfl, rfl, (4 : Int), rfl, by decide, by decide, ?_⟩
  intro v v0 v1
  have n62 : (2 : Int) ^ 62 = 4611686018427387904 := by decide
  refine ⟨_, _, rfl, rfl, trivial, _, rfl, by omega, by omega, ?_⟩
  refine lc_any _ (fun x => IntIn (-1000) 1000 x) (List.range (1 + v).toNat) [] _ ?_ (by rw [List.length_range, List.length_nil]; omega) ?_
  · intro i _ Qx qx
    refine ⟨_, rfl, _, rfl, rfl, (9 : Int), rfl, by decide, by decide, ?_⟩
    intro u u0 u1
    exact ⟨_, _, rfl, rfl, trivial, _, rfl, qx _ ⟨_, rfl, by omega, by omega⟩⟩
  · intro ys hy py
    rw [List.length_range] at hy
    obtain ⟨zs, rfl, pz⟩ := ints_of py
    rw [List.length_map] at hy
    refine ⟨_, _, rfl, .inl rfl, _, rfl, sz rfl, _, rfl, sz rfl, _, _, rfl, rfl, sz rfl, rfl, some_of rfl (by simp) (ln rfl) ?_⟩
    intro d hdz
    refine ⟨rfl, ?_⟩
    simp only [List.cons_append, List.nil_append, List.mem_cons, List.not_mem_nil, or_false] at hdz
    obtain ⟨n1, rfl, a1, b1⟩ := o1
    obtain ⟨n2, rfl, a2, b2⟩ := o2
    obtain ⟨n3, rfl, a3, b3⟩ := o3
    obtain ⟨n4, rfl, a4, b4⟩ := o4
    rcases hdz with rfl | rfl | rfl | rfl | rfl | rfl
    · exact q (.plus n1) ⟨a1, b1⟩
    · exact q .turned trivial
    · exact q (.times n2) ⟨by omega, b2⟩
    · exact q (.over n3) ⟨a3, b3⟩
    · exact q (.rest n4) ⟨a4, b4⟩
    · exact q (.list zs) ⟨by omega, pz⟩
def fRight : Fm := fun ws Q => ∃ wy, ws = [.bag, .d (wayD wy)] ∧ WayOk wy ∧ Q (.d (.bool true))
/-- what is led is no great number -/
theorem led_sc {wy : Way} {x : Int} (ok : WayOk wy) (h1 : -(2 ^ 60) < x) (h2 : x < 2 ^ 60) : Sc (optD (ledI wy x)) := by
  cases wy with
  | plus n =>
    have := ok.1
    have := ok.2
    exact log_small (i := x + n)
  | turned => exact log_small (i := -x)
  | times n =>
    have a := ok.1
    have b := ok.2
    refine log_small (i := x * n) ?_ ?_
    · have h : x.natAbs * n.natAbs ≤ 2 ^ 60 * 1000 := Nat.mul_le_mul (by omega) (by omega)
      have e := Int.natAbs_mul x n
      omega
    · have h : x.natAbs * n.natAbs ≤ 2 ^ 60 * 1000 := Nat.mul_le_mul (by omega) (by omega)
      have e := Int.natAbs_mul x n
      omega
  | over n =>
    have a : 1 ≤ n := ok.1
    have e := Int.fdiv_eq_ediv_of_nonneg x (show 0 ≤ n by omega)
    refine log_small (i := x.fdiv n) ?_ ?_
    · rw [e]
      have : -(2 ^ 60) ≤ x / n := by
        rw [Int.le_ediv_iff_mul_le (by omega)]
        have : 2 ^ 60 * 1 ≤ 2 ^ 60 * n := Int.mul_le_mul_of_nonneg_left a (by decide)
        omega
      omega
    · rw [e]
      have : x / n < 2 ^ 60 := by
        rw [Int.ediv_lt_iff_lt_mul (by omega)]
        have : 2 ^ 60 * 1 ≤ 2 ^ 60 * n := Int.mul_le_mul_of_nonneg_left a (by decide)
        omega
      omega
  | rest n =>
    have a : 1 ≤ n := ok.1
    have b := ok.2
    have e := Int.fmod_eq_emod_of_nonneg x (show 0 ≤ n by omega)
    have l := Int.emod_nonneg x (show n ≠ 0 by omega)
    have u := Int.emod_lt_of_pos x (show 0 < n by omega)
    refine log_small (i := x.fmod n) ?_ ?_ <;> rw [e] <;> omega
  | list xs =>
    show Sc (optD (if 0 ≤ x ∧ x < xs.length then xs[x.toNat]? else none))
    split
    · cases h : xs[x.toNat]? with
      | none => exact trivial
      | some z =>
        have hzz := ok.2 z (List.mem_of_getElem? h)
        exact log_small (i := z)
    · exact trivial
end MM

set_option maxHeartbeats 3999999
/-! a way held against itz reckoning -/
namespace MM
open PySem PySem.Spec PyProof.Rows L2 GG DD LL
def nOf : Way → Int
  | .plus n => n
  | .times n => n
  | _ => 1
theorem nOf_ok {wy : Way} (ok : WayOk wy) : -1000 ≤ nOf wy ∧ nOf wy ≤ 1000 := by
  cases wy <;> first | exact ok | exact ⟨(by decide : (-1000 : Int) ≤ 1), (by decide : (1 : Int) ≤ 1000)⟩
theorem eq_no {i j : Int} (h : i = j) : (!PyData.eqv (.int i) (.int j)) = false := by
  rw [eqv_int, decide_eq_true h]
  rfl
theorem if_no {A B : Prop} {c : Bool} (e : c = false) (h : B) : if c = true then A else B := no e h
abbrev lenOf : Way → Int
  | .list xs => xs.length
  | _ => 3
theorem len_small {wy : Way} (ok : WayOk wy) : 0 ≤ lenOf wy ∧ lenOf wy ≤ 9 := by
  cases wy with
  | list xs =>
    have := ok.1
    show 0 ≤ (xs.length : Int) ∧ (xs.length : Int) ≤ 9
    omega
  | _ => exact ⟨(by decide : (0 : Int) ≤ 3), (by decide : (3 : Int) ≤ 9)⟩
/-- n = way[1] if way[0] in ("plus", "times") else 1 -/
theorem w_nOf {wy : Way} {L x : PD} {e4 : E} {Q : W → Prop} (q : Q (.d (.int (nOf wy)))) :
    ifW (testW (opW inTF (opW ixF (varW 1) (conW (.int 0))) (tupW (consW (conW (.str "plus")) (consW (conW (.str "times")) nilW))))) (opW ixF (varW 1) (conW (.int 1))) (conW (.int 1)) [.v .bag, .v (.d (wayD wy)), .v (.d L), .v (.d x), e4] Q := by
  cases wy with
  | plus n => exact ⟨_, rfl, _, _, rfl, rfl, _, rfl, sz rfl, _, _, rfl, rfl, by decide +kernel, by decide +kernel, _, rfl, yes (by decide +kernel) ⟨_, rfl, _, _, rfl, rfl, q⟩⟩
  | times n => exact ⟨_, rfl, _, _, rfl, rfl, _, rfl, sz rfl, _, _, rfl, rfl, by decide +kernel, by decide +kernel, _, rfl, yes (by decide +kernel) ⟨_, rfl, _, _, rfl, rfl, q⟩⟩
  | turned => exact ⟨_, rfl, _, _, rfl, rfl, _, rfl, sz rfl, _, _, rfl, rfl, by decide +kernel, by decide +kernel, _, rfl, no (by decide +kernel) q⟩
  | over n => exact ⟨_, rfl, _, _, rfl, rfl, _, rfl, sz rfl, _, _, rfl, rfl, by decide +kernel, by decide +kernel, _, rfl, no (by decide +kernel) q⟩
  | rest n => exact ⟨_, rfl, _, _, rfl, rfl, _, rfl, sz rfl, _, _, rfl, rfl, by decide +kernel, by decide +kernel, _, rfl, no (by decide +kernel) q⟩
  | list xs => exact ⟨_, rfl, _, _, rfl, rfl, _, rfl, sz rfl, _, _, rfl, rfl, by decide +kernel, by decide +kernel, _, rfl, no (by decide +kernel) q⟩
/-- length = len(way[1]) if way[0] == "list" else 3 -/
theorem w_lenOf {wy : Way} {r : En} {Q : W → Prop} (q : Q (.d (.int (lenOf wy)))) :
    ifW (testW (opW eqSF (opW ixF (varW 1) (conW (.int 0))) (conW (.str "list")))) (cbW lenF (consW (opW ixF (varW 1) (conW (.int 1))) nilW)) (conW (.int 3)) (.v .bag :: .v (.d (wayD wy)) :: r) Q := by
  cases wy with
  | list xs => exact ⟨_, rfl, _, _, rfl, rfl, _, _, rfl, rfl, _, rfl, yes (by decide +kernel) ⟨_, rfl, _, _, rfl, rfl, _, xs.length, rfl, .inr (.inl (by rw [← List.length_map (f := PyData.int)]; rfl)), q⟩⟩
  | plus n => exact ⟨_, rfl, _, _, rfl, rfl, _, _, rfl, rfl, _, rfl, no (by decide +kernel) q⟩
  | times n => exact ⟨_, rfl, _, _, rfl, rfl, _, _, rfl, rfl, _, rfl, no (by decide +kernel) q⟩
  | turned => exact ⟨_, rfl, _, _, rfl, rfl, _, _, rfl, rfl, _, rfl, no (by decide +kernel) q⟩
  | over n => exact ⟨_, rfl, _, _, rfl, rfl, _, _, rfl, rfl, _, rfl, no (by decide +kernel) q⟩
  | rest n => exact ⟨_, rfl, _, _, rfl, rfl, _, _, rfl, rfl, _, rfl, no (by decide +kernel) q⟩
/-- 0 < n <= 1000 and .. -/
theorem w_pos {n : Int} {e0 ez1 ez2 e3 : E} {mu : Wt} {Q : Bool → Prop} (h : 0 < n → n ≤ 1000 → mu [e0, ez1, ez2, e3, .v (.d (.int n))] Q) (h' : Q false) :
    andW (testW (chainW (iiF (fun _ _ => True) fun i j => .bool (decide (i < j))) (iiF (fun _ _ => True) fun i j => .bool (decide (i ≤ j))) (conW (.int 0)) (varW 4) (conW (.int 1000)))) mu [e0, ez1, ez2, e3, .v (.d (.int n))] Q := by
  refine ⟨_, rfl, _, _, rfl, rfl, trivial, _, rfl, ?_⟩
  by_cases h0 : 0 < n
  · refine yes (decide_eq_true h0) ⟨_, _, rfl, rfl, trivial, _, rfl, ?_⟩
    by_cases h1 : n ≤ 1000
    · exact yes (decide_eq_true h1) (h h0 h1)
    · exact no (decide_eq_false h1) h'
  · exact no (decide_eq_false h0) ⟨_, rfl, no rfl h'⟩
theorem w_right (ws Q) (h : fRight ws Q) : bodyW 5 (m_law_is_way_right takeF fSame fLed fLed) ws Q := by
  obtain ⟨wy, rfl, ok, q⟩ := h
  obtain ⟨l0, l1⟩ := len_small ok
  obtain ⟨b0, b1⟩ := nOf_ok ok
  refine w_lenOf ⟨rfl, ?_⟩
  refine ⟨_, rfl, _, rfl, _, _, rfl, rfl, trivial, _, rfl, ?_⟩
  refine ⟨_, rfl, rfl, (2001 : Int), rfl, by decide, by decide, ?_⟩
  intro u u0 u1
  refine ⟨_, _, rfl, rfl, trivial, ?_⟩
  refine ⟨_, _, rfl, rfl, ⟨by decide, by decide, by decide⟩, _, _, rfl, rfl, trivial, ?_⟩
  refine ⟨_, rfl, rfl, (9 : Int), rfl, by decide, by decide, ?_⟩
  intro v v0 v1
  refine ⟨_, _, rfl, rfl, trivial, ?_⟩
  refine ⟨_, _, rfl, rfl, ⟨by decide, by decide, by decide⟩, _, _, rfl, rfl, trivial, ?_⟩
  refine ⟨_, rfl, sz rfl, _, rfl, ?_⟩
  have p9 : (10 : Int) ^ ((9 : Int).toNat) = 1000000000 := by decide
  refine loop_over (fun i : Int => WI.d (.int i)) (fun _ env => ∃ e3 e4, env = [.v .bag, .v (.d (wayD wy)), .v (.d (.int (lenOf wy))), e3, e4])
    [0, 1, -1, lenOf wy - 1, lenOf wy, u - 1000, (10 : Int) ^ ((9 : Int).toNat) - 1 - v, 7 - (10 : Int) ^ ((9 : Int).toNat)] 0 _ _ ?_ ⟨_, _, rfl⟩ ?_
  · rintro j x env hj ⟨e3, e4, rfl⟩ Qo k
    have hxz : -(2 ^ 60) < x ∧ x < 2 ^ 60 := by
      have hmz := List.mem_of_getElem? hj
      simp only [List.mem_cons, List.not_mem_nil, or_false] at hmz
      rw [p9] at hmz
      rcases hmz with rfl | rfl | rfl | rfl | rfl | rfl | rfl | rfl <;> omega
    refine ⟨_, rfl, ?_⟩
    refine ⟨_, rfl, _, rfl, rfl, wy, x, rfl, ok, ?_⟩
    refine ⟨_, rfl, _, rfl, rfl, wy, x, rfl, ok, ?_⟩
    refine ⟨rfl, _, rfl, led_sc ok hxz.1 hxz.2, _, rfl, no rfl ?_⟩
    refine w_nOf ⟨rfl, ?_⟩
    refine ⟨_, rfl, _, rfl, _, rfl, sz rfl, _, rfl, _, rfl, sz rfl, _, rfl, rfl, .plus (nOf wy), x, rfl, ⟨b0, b1⟩, rfl, .plus (-nOf wy), x + nOf wy, rfl, ⟨by omega, by omega⟩, ?_⟩
    refine ⟨_, rfl, _, _, rfl, rfl, rfl, rfl, _, rfl, no (eq_no (by omega)) ?_⟩
    refine ⟨_, rfl, sz rfl, _, rfl, sz rfl, _, rfl, rfl, .turned, x, rfl, trivial, rfl, .turned, -x, rfl, trivial, ?_⟩
    refine ⟨_, rfl, _, _, rfl, rfl, rfl, rfl, _, rfl, no (eq_no (by omega)) ?_⟩
    refine w_pos (fun h0 h1 => ?_) (no rfl ?_)
    · refine ⟨_, rfl, _, rfl, sz rfl, _, rfl, _, rfl, sz rfl, _, rfl, rfl, .times (nOf wy), x, rfl, ⟨b0, b1⟩, rfl, .over (nOf wy), x * nOf wy, rfl, ⟨h0, h1⟩, ?_⟩
      refine ⟨_, rfl, _, _, rfl, rfl, rfl, rfl, _, rfl, no (eq_no ?_) ?_⟩
      · exact Int.mul_fdiv_cancel _ (by omega)
      · refine w_pos (fun _ _ => ?_) (no rfl (k _ ⟨_, _, rfl⟩))
        refine ⟨_, rfl, _, rfl, sz rfl, _, rfl, rfl, .over (nOf wy), x, rfl, ⟨h0, h1⟩, _, rfl, _, _, rfl, rfl, cmul_r b0 b1, ?_⟩
        refine ⟨_, rfl, _, rfl, sz rfl, _, rfl, rfl, .rest (nOf wy), x, rfl, ⟨h0, h1⟩, _, _, rfl, rfl, trivial, ?_⟩
        refine ⟨_, rfl, _, _, rfl, rfl, rfl, rfl, _, rfl, no (eq_no ?_) (k _ ⟨_, _, rfl⟩)⟩
        have := Int.mul_fdiv_add_fmod x (nOf wy)
        have e := Int.mul_comm (x.fdiv (nOf wy)) (nOf wy)
        omega
    · refine w_pos (fun h0 h1 => ?_) (no rfl (k _ ⟨_, _, rfl⟩))
      refine ⟨_, rfl, _, rfl, sz rfl, _, rfl, rfl, .over (nOf wy), x, rfl, ⟨h0, h1⟩, _, rfl, _, _, rfl, rfl, cmul_r b0 b1, ?_⟩
      refine ⟨_, rfl, _, rfl, sz rfl, _, rfl, rfl, .rest (nOf wy), x, rfl, ⟨h0, h1⟩, _, _, rfl, rfl, trivial, ?_⟩
      refine ⟨_, rfl, _, _, rfl, rfl, rfl, rfl, _, rfl, no (eq_no ?_) (k _ ⟨_, _, rfl⟩)⟩
      have := Int.mul_fdiv_add_fmod x (nOf wy)
      have e := Int.mul_comm (x.fdiv (nOf wy)) (nOf wy)
      omega
  · rintro env ⟨e3, e4, rfl⟩
    exact ⟨rfl, q⟩
end MM

set_option maxHeartbeats 3999999
/-! sorts and what fits them -/
namespace MM
open PySem PySem.Spec PyProof.Rows L2 GG DD LL
inductive Srt where
  | int
  | below (n : Int)
  | ref (x : Str)
  | may (x : Str)
def srtD : Srt → PD
  | .int => .tuple [.str "int"]
  | .below n => .tuple [.str "below", .int n]
  | .ref x => .tuple [.str "ref", .str x]
  | .may x => .tuple [.str "may", .str x]
theorem srt_of {d : PD} (h : IsSort d) : ∃ s, d = srtD s := by
  rcases h with rfl | ⟨n, rfl⟩ | ⟨x, rfl⟩ | ⟨x, rfl⟩
  · exact ⟨.int, rfl⟩
  · exact ⟨.below n, rfl⟩
  · exact ⟨.ref x, rfl⟩
  · exact ⟨.may x, rfl⟩
def inSrt : Srt → Int → Bool
  | .below n, i => decide (0 ≤ i) && decide (i < n)
  | _, _ => true
def fitsB : Srt → PD → Bool
  | .may _, .none => true
  | s, .int i => inSrt s i
  | _, _ => false
def isI : PD → Bool
  | .int _ => true
  | _ => false
def isIB : PD → Bool
  | .int _ => true
  | .bool _ => true
  | _ => false
theorem isin_dict {T : String} (hT : isCls T = true) (hk : kitB "dict" T = some false) (ds : List (PD × PD)) : isinD T (.dict ds) = some false := by
  unfold isinD
  by_cases e : isErr (.dict ds) = true
  · rw [if_pos e, if_pos hT]
  · rw [if_neg e]
    exact hk
theorem isin_int : ∀ t : PD, isinD "int" t = some (isIB t)
  | .none => kit_none_int
  | .bool _ => kit_bool_int
  | .int _ => kit_int_int
  | .str _ => kit_str_int
  | .list _ => kit_list_int
  | .tuple _ => kit_tuple_int
  | .dict ds => isin_dict (by decide) kit_dict_int ds
def fIsInt : Fm := fun ws Q => ∃ t, ws = [.d t] ∧ Q (.d (.bool (isI t)))
theorem w_isInt (ws Q) (h : fIsInt ws Q) : bodyW 1 mis_integer ws Q := by
  obtain ⟨t, rfl, q⟩ := h
  refine ⟨_, rfl, _, isin_int t, _, rfl, ?_⟩
  cases t with
  | int i => exact yes rfl ⟨_, rfl, _, kit_int_bool, _, rfl, rfl, q⟩
  | bool c => exact yes rfl ⟨_, rfl, _, kit_bool_bool, _, rfl, rfl, q⟩
  | none => exact no rfl ⟨rfl, q⟩
  | str x => exact no rfl ⟨rfl, q⟩
  | list x => exact no rfl ⟨rfl, q⟩
  | tuple x => exact no rfl ⟨rfl, q⟩
  | dict x => exact no rfl ⟨rfl, q⟩
theorem w_isInt2 (ws Q) (h : fIsInt ws Q) : bodyW 1 m_law_is_int ws Q := w_isInt ws Q h
/-- sort[0] != "below" or 0 <= thing < sort[1] -/
theorem w_inSrt {s : Srt} {i : Int} {r : En} {Q : W → Prop} (q : Q (.d (.bool (inSrt s i)))) :
    orVW (opW neSF (opW ixF (varW 0) (conW (.int 0))) (conW (.str "below"))) (chainW (iiF (fun _ _ => True) fun i j => .bool (decide (i ≤ j))) (iiF (fun _ _ => True) fun i j => .bool (decide (i < j))) (conW (.int 0)) (varW 1) (opW ixF (varW 0) (conW (.int 1)))) (.v (.d (srtD s)) :: .v (.d (.int i)) :: r) Q := by
  cases s with
  | int => exact ⟨_, rfl, _, _, rfl, rfl, _, _, rfl, rfl, _, rfl, yes (by decide +kernel) q⟩
  | ref x => exact ⟨_, rfl, _, _, rfl, rfl, _, _, rfl, rfl, _, rfl, yes (by decide +kernel) q⟩
  | may x => exact ⟨_, rfl, _, _, rfl, rfl, _, _, rfl, rfl, _, rfl, yes (by decide +kernel) q⟩
  | below n =>
    refine ⟨_, rfl, _, _, rfl, rfl, _, _, rfl, rfl, _, rfl, no (by decide +kernel) ?_⟩
    refine ⟨_, rfl, _, _, rfl, rfl, trivial, _, rfl, ?_⟩
    have q : Q (.d (.bool (decide (0 ≤ i) && decide (i < n)))) := q
    by_cases h0 : 0 ≤ i
    · rw [decide_eq_true h0] at q
      exact yes (decide_eq_true h0) ⟨_, rfl, _, _, rfl, rfl, _, _, rfl, rfl, trivial, q⟩
    · rw [decide_eq_false h0] at q
      exact no (decide_eq_false h0) q
/-- is_integer(thing) and .. -/
theorem w_fitsEnd {s : Srt} {t : PD} {r : En} {Q : W → Prop} (nn : t ≠ .none) (q : Q (.d (.bool (fitsB s t)))) :
    andVW (callW 1 fIsInt (consW (varW 1) nilW)) (orVW (opW neSF (opW ixF (varW 0) (conW (.int 0))) (conW (.str "below"))) (chainW (iiF (fun _ _ => True) fun i j => .bool (decide (i ≤ j))) (iiF (fun _ _ => True) fun i j => .bool (decide (i < j))) (conW (.int 0)) (varW 1) (opW ixF (varW 0) (conW (.int 1))))) (.v (.d (srtD s)) :: .v (.d t) :: r) Q := by
  refine ⟨_, rfl, rfl, t, rfl, _, rfl, ?_⟩
  cases t with
  | int i =>
    have e : fitsB s (.int i) = inSrt s i := by cases s <;> rfl
    rw [e] at q
    exact yes rfl (w_inSrt q)
  | none => exact (nn rfl).elim
  | bool c => exact no rfl (by cases s <;> exact q)
  | str x => exact no rfl (by cases s <;> exact q)
  | list x => exact no rfl (by cases s <;> exact q)
  | tuple x => exact no rfl (by cases s <;> exact q)
  | dict x => exact no rfl (by cases s <;> exact q)
def fFits : Fm := fun ws Q => ∃ s t, ws = [.d (srtD s), .d t] ∧ Q (.d (.bool (fitsB s t)))
theorem isN_no {t : PD} (h : t ≠ .none) : isN (.d t) = false := by
  cases t <;> first | rfl | exact (h rfl).elim
theorem w_fits (ws Q) (h : fFits ws Q) : bodyW 2 (mfits_sort fIsInt) ws Q := by
  obtain ⟨s, t, rfl, q⟩ := h
  by_cases nn : t = .none
  · subst nn
    cases s with
    | may x => exact ⟨_, rfl, _, _, rfl, rfl, _, _, rfl, rfl, _, rfl, yes (by decide +kernel) ⟨_, rfl, _, rfl, yes rfl ⟨rfl, q⟩⟩⟩
    | int => exact ⟨_, rfl, _, _, rfl, rfl, _, _, rfl, rfl, _, rfl, no (by decide +kernel) (no rfl ⟨_, rfl, rfl, .none, rfl, _, rfl, no rfl ⟨rfl, q⟩⟩)⟩
    | below n => exact ⟨_, rfl, _, _, rfl, rfl, _, _, rfl, rfl, _, rfl, no (by decide +kernel) (no rfl ⟨_, rfl, rfl, .none, rfl, _, rfl, no rfl ⟨rfl, q⟩⟩)⟩
    | ref x => exact ⟨_, rfl, _, _, rfl, rfl, _, _, rfl, rfl, _, rfl, no (by decide +kernel) (no rfl ⟨_, rfl, rfl, .none, rfl, _, rfl, no rfl ⟨rfl, q⟩⟩)⟩
  · cases s with
    | may x => exact ⟨_, rfl, _, _, rfl, rfl, _, _, rfl, rfl, _, rfl, yes (by decide +kernel) ⟨_, rfl, _, rfl, no (isN_no nn) (w_fitsEnd (s := .may x) nn ⟨rfl, q⟩)⟩⟩
    | int => exact ⟨_, rfl, _, _, rfl, rfl, _, _, rfl, rfl, _, rfl, no (by decide +kernel) (no rfl (w_fitsEnd (s := .int) nn ⟨rfl, q⟩))⟩
    | below n => exact ⟨_, rfl, _, _, rfl, rfl, _, _, rfl, rfl, _, rfl, no (by decide +kernel) (no rfl (w_fitsEnd (s := .below n) nn ⟨rfl, q⟩))⟩
    | ref x => exact ⟨_, rfl, _, _, rfl, rfl, _, _, rfl, rfl, _, rfl, no (by decide +kernel) (no rfl (w_fitsEnd (s := .ref x) nn ⟨rfl, q⟩))⟩
theorem w_anyFits (ws Q) (h : fFits ws Q) : bodyW 2 (m_law_any_fits fIsInt) ws Q := by
  obtain ⟨s, t, rfl, q⟩ := h
  by_cases nn : t = .none
  · subst nn
    refine ⟨_, rfl, _, rfl, yes rfl ?_⟩
    cases s with
    | may x => exact ⟨_, rfl, _, _, rfl, rfl, _, _, rfl, rfl, rfl, q⟩
    | int => exact ⟨_, rfl, _, _, rfl, rfl, _, _, rfl, rfl, rfl, q⟩
    | below n => exact ⟨_, rfl, _, _, rfl, rfl, _, _, rfl, rfl, rfl, q⟩
    | ref x => exact ⟨_, rfl, _, _, rfl, rfl, _, _, rfl, rfl, rfl, q⟩
  · exact ⟨_, rfl, _, rfl, no (isN_no nn) (w_fitsEnd nn ⟨rfl, q⟩)⟩
/-- None or an int -/
def IsVal (t : PD) : Prop := t = .none ∨ ∃ i : Int, t = .int i
def fFits2 : Fm := fun ws Q => ∃ s t, ws = [.d (srtD s), .d t] ∧ IsVal t ∧ Q (.d (.bool (fitsB s t)))
theorem w_sortFits (ws Q) (h : fFits2 ws Q) : bodyW 2 m_law_sort_fits ws Q := by
  obtain ⟨s, t, rfl, v, q⟩ := h
  rcases v with rfl | ⟨i, rfl⟩
  · refine ⟨_, rfl, _, rfl, yes rfl ?_⟩
    cases s with
    | may x => exact ⟨_, rfl, _, _, rfl, rfl, _, _, rfl, rfl, rfl, q⟩
    | int => exact ⟨_, rfl, _, _, rfl, rfl, _, _, rfl, rfl, rfl, q⟩
    | below n => exact ⟨_, rfl, _, _, rfl, rfl, _, _, rfl, rfl, rfl, q⟩
    | ref x => exact ⟨_, rfl, _, _, rfl, rfl, _, _, rfl, rfl, rfl, q⟩
  · have e : fitsB s (.int i) = inSrt s i := by cases s <;> rfl
    rw [e] at q
    exact ⟨_, rfl, _, rfl, no rfl (w_inSrt ⟨rfl, q⟩)⟩
end MM

set_option maxHeartbeats 3999999
/-! rows -/
namespace MM
open PySem PySem.Spec PyProof.Rows L2 GG DD LL
def fIsVal : Fm := fun ws Q => ∃ t, ws = [.d t] ∧ IsVal t ∧ Q (.d (.bool true))
theorem w_isVal (ws Q) (h : fIsVal ws Q) : bodyW 1 (mis_value fIsInt) ws Q := by
  obtain ⟨t, rfl, v, q⟩ := h
  rcases v with rfl | ⟨i, rfl⟩
  · exact ⟨_, rfl, _, rfl, yes rfl ⟨rfl, q⟩⟩
  · exact ⟨_, rfl, _, rfl, no rfl ⟨_, rfl, rfl, _, rfl, rfl, q⟩⟩
def fIsTup : Fm := fun ws Q => ∃ xs, ws = [.d (.tuple xs), .d (.int (xs.length : Nat))] ∧ Q (.d (.bool true))
theorem w_isTup (ws Q) (h : fIsTup ws Q) : bodyW 2 mis_tuple_of ws Q := by
  obtain ⟨xs, rfl, q⟩ := h
  refine ⟨_, rfl, _, kit_tuple_tuple, _, rfl, yes rfl ?_⟩
  refine ⟨_, rfl, _, xs.length, rfl, .inr (.inl rfl), _, rfl, _, _, rfl, rfl, rfl, rfl, rfl, ?_⟩
  rw [eqv_int, decide_eq_true rfl]
  exact q
def colsD (t : Tab) : List (PD × PD) := t.cols.map fun p => (PyData.str p.1, p.2)
theorem cols_ne (t : Tab) : colsD t ≠ errP := by
  unfold colsD errP
  cases t.cols with
  | nil => exact fun z => by cases z
  | cons c cs =>
    intro z
    rw [List.map_cons] at z
    injection z with z _
    injection z with z _
    cases z
def fSortsIn : Fm := fun ws Q => ∃ s n t, Gd s ∧ (n, t) ∈ s.ts ∧ ws = [.d (sD s), .d (.str n)] ∧ Q (.d (.dict (colsD t)))
theorem w_sortsIn (ws Q) (h : fSortsIn ws Q) : bodyW 2 m_sorts_in ws Q := by
  obtain ⟨s, n, t, g, hmz, rfl, q⟩ := h
  refine ⟨_, rfl, _, _, rfl, rfl, s.ts.map (fun p => (p.1, tD p.2)), ?_, ?_, ?_⟩
  · rw [List.map_map]
    rfl
  · rw [List.map_map]
    exact inc_nodup g.inc
  · exact ⟨_, rfl, n, tD t, rfl, List.mem_map.mpr ⟨_, hmz, rfl⟩, _, _, rfl, rfl, _, t.cols, rfl, rfl, inc_nodup (g.tab _ hmz).inc, rfl, q⟩
def fIsRow : Fm := fun ws Q => ∃ s n t xs, Gd s ∧ (n, t) ∈ s.ts ∧ ws = [.d (sD s), .d (.str n), .d (.tuple xs)] ∧ xs.length = t.cols.length ∧ (∀ x ∈ xs, IsVal x) ∧ Q (.d (.bool true))
theorem w_isRow (ws Q) (h : fIsRow ws Q) : bodyW 4 (mis_row fIsVal fIsTup fSortsIn) ws Q := by
  obtain ⟨s, n, t, xs, g, hmz, rfl, hlz0, v, q⟩ := h
  have hl4 : xs.length ≤ 4 := by
    rw [hlz0]
    exact (g.tab _ hmz).n
  refine ⟨_, rfl, _, rfl, _, rfl, rfl, s, n, t, g, hmz, rfl, _, rfl, cols_ne t, rfl, xs, ?_, _, rfl, yes rfl ?_⟩
  · have e : (colsD t).length = xs.length := by
      unfold colsD
      rw [List.length_map, hlz0]
    rw [e]
  · refine ⟨_, rfl, _, rfl, lc_map WI.d (fun _ => .bool true) xs [] _ ?_ (by rw [List.length_nil]; omega) ?_⟩
    · intro a haz Qx qx
      exact ⟨_, rfl, yt (B := Qx none) ⟨_, rfl, rfl, a, rfl, v a haz, _, rfl, qx⟩⟩
    · refine ⟨_, xs.map (fun _ => true), rfl, ?_, rfl, ?_⟩
      · rw [List.map_map]
        rfl
      · have e : (xs.map (fun _ => true)).all id = true := by
          rw [List.all_map]
          exact List.all_eq_true.mpr fun _ _ => rfl
        rw [e]
        exact q
theorem srts_of : ∀ {cols : List (Str × PD)}, (∀ c ∈ cols, IsSort c.2) → ∃ ss : List Srt, cols.map Prod.snd = ss.map srtD
  | [], _ => ⟨[], rfl⟩
  | c :: cs, h => by
    obtain ⟨ss, e⟩ := srts_of (cols := cs) fun x hxz => h x (List.mem_cons_of_mem _ hxz)
    obtain ⟨s, ez1⟩ := srt_of (h c List.mem_cons_self)
    exact ⟨s :: ss, by rw [List.map_cons, List.map_cons, e, ez1]⟩
def rowB (ss : List Srt) (xs : List PD) : Bool := (ss.zip xs).all fun p => fitsB p.1 p.2
theorem zip_srt (ss : List Srt) (xs : List PD) : (((ss.map srtD).zip xs).map fun p => WI.p p.1 p.2) = (ss.zip xs).map fun p => WI.p (srtD p.1) p.2 := by
  rw [List.zip_map_left, List.map_map]
  rfl
def fRow : Fm := fun ws Q => ∃ s n t ss xs, Gd s ∧ (n, t) ∈ s.ts ∧ t.cols.map Prod.snd = ss.map srtD ∧ ws = [.d (sD s), .d (.str n), .d (.tuple xs)] ∧ xs.length = t.cols.length ∧ (∀ x ∈ xs, IsVal x) ∧ Q (.d (.bool (rowB ss xs)))
theorem w_fitsRow (ws Q) (h : fRow ws Q) : bodyW 6 (mfits_row fIsRow fSortsIn fFits) ws Q := by
  obtain ⟨s, n, t, ss, xs, g, hmz, es, rfl, hlz0, v, q⟩ := h
  have hs4 : (ss.zip xs).length ≤ 4 := by
    have hc : t.cols.length ≤ 4 := (g.tab _ hmz).n
    rw [List.length_zip]
    omega
  refine ⟨_, rfl, _, rfl, _, rfl, rfl, s, n, t, xs, g, hmz, rfl, hlz0, v, _, rfl, no rfl ?_⟩
  refine ⟨_, rfl, _, rfl, rfl, s, n, t, g, hmz, rfl, _, rfl, cols_ne t, ?_⟩
  have e : (colsD t).map (fun p => p.2) = ss.map srtD := by
    unfold colsD
    rw [List.map_map]
    exact es
  rw [e]
  refine ⟨_, rfl, _, rfl, _, _, rfl, rfl, ?_⟩
  rw [zip_srt]
  refine lc_map (fun p : Srt × PD => WI.p (srtD p.1) p.2) (fun p => .bool (fitsB p.1 p.2)) (ss.zip xs) [] _ ?_ (by rw [List.length_nil]; omega) ?_
  · rintro ⟨a, x⟩ haz Qx qx
    exact ⟨_, rfl, rfl, _, _, rfl, ⟨_, rfl, _, _, rfl, ⟨_, rfl, rfl, yt (B := Qx none) ⟨_, rfl, _, rfl, rfl, a, x, rfl, _, rfl, qx⟩⟩⟩⟩
  · refine ⟨_, (ss.zip xs).map (fun p => fitsB p.1 p.2), rfl, ?_, rfl, ?_⟩
    · rw [List.map_map]
      rfl
    · have ez2 : ((ss.zip xs).map (fun p => fitsB p.1 p.2)).all id = rowB ss xs := by
        rw [List.all_map]
        rfl
      rw [ez2]
      exact q
theorem eqv_nil : ∀ ys : List PD, PyData.eqv (.list ys) (.list []) = ys.isEmpty
  | [] => by simp [PyData.eqv, PyData.eqvAll]
  | y :: ys => by simp [PyData.eqv, PyData.eqvAll]
theorem ones_shaped {ys : List PD} (h : ∀ y ∈ ys, y = .int 1) (hlz0 : ys.length ≤ 9) : SeqAt.shaped (.list ys) = true :=
  (Ok.lst (m := 9) (n := 1) (k := 0) hlz0 fun y hy => by
    rw [h y hy]
    exact ok_int (by decide) (by decide)).shaped
theorem bad_empty {p : Srt × PD → Bool} : ∀ l : List (Srt × PD), (l.filterMap fun a => if p a = true then none else some (PyData.int 1)).isEmpty = l.all p
  | [] => rfl
  | a :: l => by
    by_cases e : p a = true
    · rw [List.filterMap_cons_none (by rw [if_pos e]), bad_empty l, List.all_cons, e, Bool.true_and]
    · rw [List.filterMap_cons_some (b := PyData.int 1) (by rw [if_neg e])]
      have e : p a = false := by simpa using e
      rw [List.all_cons, e]
      rfl
theorem w_lawRow (ws Q) (h : fRow ws Q) : bodyW 7 (m_law_row_fits fTable fFits2) ws Q := by
  obtain ⟨s, n, t, ss, xs, g, hmz, es, rfl, hlz0, v, q⟩ := h
  have hc : t.cols.length ≤ 4 := (g.tab _ hmz).n
  have hss : ss.length = t.cols.length := by
    have := congrArg List.length es
    rw [List.length_map, List.length_map] at this
    exact this.symm
  refine ⟨_, rfl, _, rfl, rfl, s, n, t, g, hmz, rfl, _, _, rfl, rfl, _, rfl, ?_⟩
  show lcW _ _ _ _ ((t.cols.map DD.pairD).map WI.d) [] _
  rw [List.map_map]
  refine lc_map (WI.d ∘ DD.pairD) (fun c => c.2) t.cols [] _ ?_ (by rw [List.length_nil]; omega) ?_
  · rintro ⟨c, d⟩ haz Qx qx
    exact ⟨_, rfl, rfl, _, _, rfl, ⟨_, rfl, _, _, rfl, ⟨_, rfl, rfl, yt (B := Qx none) ⟨_, rfl, _, rfl, qx⟩⟩⟩⟩
  · have e : t.cols.map (fun c => c.2) = ss.map srtD := es
    rw [List.nil_append, e]
    refine ⟨_, rfl, _, xs.length, rfl, .inr (.inl rfl), _, rfl, _, ss.length, rfl, .inl ?_, ?_⟩
    · show ((ss.map srtD).length |> some) = some ss.length
      rw [List.length_map]
    · refine ⟨_, _, rfl, rfl, rfl, rfl, _, rfl, ?_⟩
      have ez1 : PyData.eqv (.int (xs.length : Nat)) (.int (ss.length : Nat)) = true := by
        rw [eqv_int]
        exact decide_eq_true (by omega)
      refine yes ez1 ?_
      refine ⟨_, rfl, _, rfl, _, _, rfl, rfl, ?_⟩
      rw [zip_srt]
      refine lc_over (fun p : Srt × PD => WI.p (srtD p.1) p.2) (fun p => if fitsB p.1 p.2 = true then none else some (.int 1)) (ss.zip xs) [] _ ?_ (by rw [List.length_nil, List.length_zip]; omega) ?_
      · rintro ⟨a, x⟩ haz Qx qx
        have vx : IsVal x := v x (List.of_mem_zip haz).2
        refine ⟨_, rfl, rfl, _, _, rfl, ⟨_, rfl, _, _, rfl, ⟨_, rfl, rfl, ?_⟩⟩⟩
        refine ⟨_, rfl, _, rfl, rfl, a, x, rfl, vx, _, rfl, ?_⟩
        by_cases f : fitsB a x = true
        · have qx : Qx (if fitsB a x = true then none else some (.int 1)) := qx
          rw [if_pos f] at qx
          exact no (by rw [f]; rfl) qx
        · have qx : Qx (if fitsB a x = true then none else some (.int 1)) := qx
          rw [if_neg f] at qx
          have f : fitsB a x = false := by simpa using f
          exact yes (by rw [f]; rfl) ⟨_, rfl, qx⟩
      · rw [List.nil_append]
        refine ⟨_, rfl, sz rfl, _, _, rfl, rfl, ones_shaped ?_ ?_, by decide +kernel, rfl, ?_⟩
        · intro y hy
          obtain ⟨p, _, e⟩ := List.mem_filterMap.mp hy
          split at e
          · cases e
          · exact (Option.some.inj e).symm
        · refine Nat.le_trans (List.length_filterMap_le _ _) ?_
          rw [List.length_zip]
          omega
        · rw [eqv_nil, bad_empty]
          exact q
end MM

set_option maxHeartbeats 3999999
/-! integers that texts show -/
namespace MM
open PySem PySem.Spec PyProof.Rows L2 GG DD LL
def figs (z : Str) : Str := Txt.removeprefix z "-"
def dg (c : Nat) : Bool := inS ⟨#[c]⟩ "0123456789"
def rng (z : Str) : Bool := decide ((1 : Int) ≤ ((figs z).length : Nat)) && decide (((figs z).length : Nat) ≤ (200 : Int))
def alld (z : Str) : Bool := (figs z).cps.toList.all dg
def led0 (z : Str) : Bool := decide ((⟨#[(figs z).cps.toList.headD 0]⟩ : Str) = "0")
def is0 (z : Str) : Bool := decide (z = "0")
def outI (z : Str) : PD := if rng z = true then (if alld z = true then (if (led0 z && !(is0 z)) = true then .none else match PySem.intText? z with
  | some n => .int n
  | none => .bool true) else .none) else .none
def bads (z : Str) : List PD := (figs z).cps.toList.filterMap fun c => if dg c = true then none else some (chrD c)
structure InOk (z : Str) : Prop where
  sl : (if decide (Txt.slice z none (some 1) = ("-" : Str)) = true then Txt.slice z (some 1) none else z) = figs z
  zl : z.length ≤ 640
  fl : (figs z).length ≤ 640
  sh : rng z = true → SeqAt.shaped (.list (bads z)) = true
  rd : rng z = true → alld z = true → (led0 z && !(is0 z)) = false → (PySem.intText? z).isSome = true
  sc : Sc (outI z)
def fInt : Fm := fun ws Q => ∃ z, ws = [.d (.str z)] ∧ InOk z ∧ Q (.d (outI z))
theorem s640 {n : Nat} (h : n ≤ 640) : n ≤ sizeLine := by
  rw [sizeLine_eq]
  omega
theorem first_at {z : Str} (ok : InOk z) (hr : rng z = true) : ixD (.d (.str (figs z))) 0 = some (.str ⟨#[(figs z).cps.toList.headD 0]⟩) := by
  unfold rng at hr
  rw [Bool.and_eq_true, decide_eq_true_eq] at hr
  have hlz0 : 0 < (figs z).cps.toList.length := by
    have e : (figs z).cps.toList.length = (figs z).length := Array.length_toList
    omega
  unfold ixD
  dsimp only
  rw [if_pos (s640 ok.fl)]
  cases h : (figs z).cps.toList with
  | nil =>
    rw [h] at hlz0
    cases hlz0
  | cons c cs =>
    have e : atI (c :: cs) 0 = some c := by
      unfold atI ixN
      rw [if_pos (by decide), if_pos (by rw [List.length_cons]; omega)]
      rfl
    rw [e]
    rfl
/-- 1 <= len(digits) <= 200 -/
theorem w_rng {z : Str} {e0 : E} {r : En} {Q : Bool → Prop} (ok : InOk z) (q : Q (rng z)) :
    testW (chainW (iiF (fun _ _ => True) fun i j => .bool (decide (i ≤ j))) (iiF (fun _ _ => True) fun i j => .bool (decide (i ≤ j))) (conW (.int 1)) (cbW lenF (consW (varW 1) nilW)) (conW (.int 200))) (e0 :: .v (.d (.str (figs z))) :: r) Q := by
  refine ⟨_, rfl, _, (figs z).length, rfl, .inr (.inr ⟨_, rfl, s640 ok.fl, rfl⟩), _, _, rfl, rfl, trivial, _, rfl, ?_⟩
  unfold rng at q
  by_cases h : (1 : Int) ≤ ((figs z).length : Nat)
  · rw [decide_eq_true h, Bool.true_and] at q
    exact yes (decide_eq_true h) ⟨_, _, rfl, rfl, trivial, _, rfl, q⟩
  · rw [decide_eq_false h, Bool.false_and] at q
    exact no (decide_eq_false h) ⟨_, rfl, q⟩
theorem out_r {z : Str} (h : rng z = false) : outI z = .none := by
  unfold outI
  rw [if_neg (by rw [h]; exact Bool.false_ne_true)]
theorem out_a {z : Str} (hr : rng z = true) (h : alld z = false) : outI z = .none := by
  unfold outI
  rw [if_pos hr, if_neg (by rw [h]; exact Bool.false_ne_true)]
theorem out_0 {z : Str} (hr : rng z = true) (haz : alld z = true) (h : (led0 z && !(is0 z)) = true) : outI z = .none := by
  unfold outI
  rw [if_pos hr, if_pos haz, if_pos h]
theorem out_n {z : Str} {n : Int} (hr : rng z = true) (haz : alld z = true) (h : (led0 z && !(is0 z)) = false) (e : PySem.intText? z = some n) : outI z = .int n := by
  unfold outI
  rw [if_pos hr, if_pos haz, if_neg (by rw [h]; exact Bool.false_ne_true), e]
theorem w_intIn (ws Q) (h : fInt ws Q) : bodyW 3 minteger_in ws Q := by
  obtain ⟨z, rfl, ok, q⟩ := h
  refine ⟨_, rfl, z, rfl, _, rfl, s640 ok.zl, rfl, ?_⟩
  refine w_rng (e0 := .v (.d (.str z))) (r := [.un]) ok ?_
  cases hr : rng z with
  | false =>
    rw [out_r hr] at q
    exact yes rfl (yes rfl ⟨rfl, q⟩)
  | true =>
    refine no rfl ⟨_, rfl, _, rfl, ?_⟩
    refine lc_map (fun c : Nat => WI.d (chrD c)) (fun c => .bool (dg c)) (figs z).cps.toList [] _ ?_ ?_ ?_
    · intro c _ Qx qx
      exact ⟨_, rfl, yt (B := Qx none) ⟨_, rfl, _, _, rfl, rfl, _, rfl, qx⟩⟩
    · have e : (figs z).cps.toList.length = (figs z).length := Array.length_toList
      have := ok.fl
      rw [List.length_nil]
      omega
    · refine ⟨_, (figs z).cps.toList.map dg, rfl, ?_, _, rfl, ?_⟩
      · rw [List.map_map]
        rfl
      · have ez2 : ((figs z).cps.toList.map dg).all id = alld z := by
          rw [List.all_map]
          rfl
        rw [ez2]
        cases haz : alld z with
        | false =>
          rw [out_a hr haz] at q
          exact yes rfl ⟨rfl, q⟩
        | true =>
          refine no rfl ⟨_, rfl, _, _, rfl, first_at ok hr, _, _, rfl, rfl, _, rfl, ?_⟩
          cases h0 : led0 z with
          | false =>
            obtain ⟨n, e⟩ := Option.isSome_iff_exists.mp (ok.rd hr haz (by rw [h0]; rfl))
            rw [out_n hr haz (by rw [h0]; rfl) e] at q
            exact no h0 (no rfl ⟨_, rfl, z, n, rfl, e, ok.zl, rfl, q⟩)
          | true =>
            refine yes h0 ⟨_, rfl, _, _, rfl, rfl, _, rfl, ?_⟩
            cases hzz : is0 z with
            | false =>
              rw [out_0 hr haz (by rw [h0, hzz]; rfl)] at q
              exact yes (by show (!(is0 z)) = true; rw [hzz]; rfl) ⟨rfl, q⟩
            | true =>
              obtain ⟨n, e⟩ := Option.isSome_iff_exists.mp (ok.rd hr haz (by rw [h0, hzz]; rfl))
              rw [out_n hr haz (by rw [h0, hzz]; rfl) e] at q
              exact no (by show (!(is0 z)) = false; rw [hzz]; rfl) ⟨_, rfl, z, n, rfl, e, ok.zl, rfl, q⟩
theorem bads_nil {z : Str} : (bads z).isEmpty = alld z := by
  unfold bads alld
  induction (figs z).cps.toList with
  | nil => rfl
  | cons c cs ih =>
    by_cases e : dg c = true
    · rw [List.filterMap_cons_none (by rw [if_pos e]), ih, List.all_cons, e, Bool.true_and]
    · rw [List.filterMap_cons_some (b := chrD c) (by rw [if_neg e])]
      have e : dg c = false := by simpa using e
      rw [List.all_cons, e]
      rfl
theorem w_lawInt (ws Q) (h : fInt ws Q) : bodyW 3 m_law_integer_in ws Q := by
  obtain ⟨z, rfl, ok, q⟩ := h
  have main : ∀ (v : Str), v = figs z → seqW (iffW (orW (notW (testW (chainW (iiF (fun _ _ => True) fun i j => .bool (decide (i ≤ j))) (iiF (fun _ _ => True) fun i j => .bool (decide (i ≤ j))) (conW (.int 1)) (cbW lenF (consW (varW 1) nilW)) (conW (.int 200))))) (testW (opW neF (lW (lcompW [2] (itSW (varW 1)) (gnW 2) (testW (opW (inSF true) (varW 2) (conW (.str "0123456789")))) (varW 2))) (lW (lstW nilW))))) (retW (conW .none)) nxtW)
      (retW (ifW (orW (testW (opW neSF (opW ixF (varW 1) (conW (.int 0))) (conW (.str "0")))) (testW (opW eqSF (varW 0) (conW (.str "0"))))) (cbW intSF (consW (varW 0) nilW)) (conW .none))) [.v (.d (.str z)), .v (.d (.str v)), .un] (outV Q) := by
    rintro v rfl
    refine w_rng (e0 := .v (.d (.str z))) (r := [.un]) ok ?_
    cases hr : rng z with
    | false =>
      rw [out_r hr] at q
      exact yes rfl (yes rfl ⟨rfl, q⟩)
    | true =>
      refine no rfl ⟨_, rfl, _, rfl, ?_⟩
      refine lc_over (fun c : Nat => WI.d (chrD c)) (fun c => if dg c = true then none else some (chrD c)) (figs z).cps.toList [] _ ?_ ?_ ?_
      · intro c _ Qx qx
        refine ⟨_, rfl, _, rfl, _, _, rfl, rfl, _, rfl, ?_⟩
        by_cases e : dg c = true
        · have qx : Qx (if dg c = true then none else some (chrD c)) := qx
          rw [if_pos e] at qx
          exact no (by show (if true = true then !(dg c) else dg c) = false; rw [if_pos rfl, e]; rfl) qx
        · have qx : Qx (if dg c = true then none else some (chrD c)) := qx
          rw [if_neg e] at qx
          have e : dg c = false := by simpa using e
          exact yes (by show (if true = true then !(dg c) else dg c) = true; rw [if_pos rfl, e]; rfl) ⟨_, rfl, _, rfl, qx⟩
      · have e : (figs z).cps.toList.length = (figs z).length := Array.length_toList
        have := ok.fl
        rw [List.length_nil]
        omega
      · refine ⟨_, rfl, sz rfl, _, _, rfl, rfl, ok.sh hr, by decide +kernel, _, rfl, ?_⟩
        have ez1 : PyData.eqv (.list ([] ++ bads z)) (.list []) = alld z := by
          rw [List.nil_append, eqv_nil, bads_nil]
        show if (!(PyData.eqv (.list ([] ++ bads z)) (.list []))) = true then _ else _
        rw [ez1]
        cases haz : alld z with
        | false =>
          rw [out_a hr haz] at q
          exact yes rfl ⟨rfl, q⟩
        | true =>
          refine no rfl ⟨_, rfl, _, _, rfl, first_at ok hr, _, _, rfl, rfl, _, rfl, ?_⟩
          cases h0 : led0 z with
          | false =>
            obtain ⟨n, e⟩ := Option.isSome_iff_exists.mp (ok.rd hr haz (by rw [h0]; rfl))
            rw [out_n hr haz (by rw [h0]; rfl) e] at q
            exact yes (by show (!(led0 z)) = true; rw [h0]; rfl) (yes rfl ⟨_, rfl, z, n, rfl, e, ok.zl, rfl, q⟩)
          | true =>
            refine no (by show (!(led0 z)) = false; rw [h0]; rfl) ⟨_, rfl, _, _, rfl, rfl, _, rfl, ?_⟩
            cases hzz : is0 z with
            | false =>
              rw [out_0 hr haz (by rw [h0, hzz]; rfl)] at q
              exact no hzz ⟨rfl, q⟩
            | true =>
              obtain ⟨n, e⟩ := Option.isSome_iff_exists.mp (ok.rd hr haz (by rw [h0, hzz]; rfl))
              rw [out_n hr haz (by rw [h0, hzz]; rfl) e] at q
              exact yes hzz ⟨_, rfl, z, n, rfl, e, ok.zl, rfl, q⟩
  have sl := ok.sl
  refine ⟨_, rfl, (1 : Int), rfl, z, rfl, s640 ok.zl, _, _, rfl, rfl, _, rfl, ?_⟩
  by_cases e : decide (Txt.slice z none (some 1) = ("-" : Str)) = true
  · rw [if_pos e] at sl
    exact yes e ⟨_, rfl, (1 : Int), rfl, z, rfl, s640 ok.zl, rfl, main _ sl⟩
  · rw [if_neg e] at sl
    have e : decide (Txt.slice z none (some 1) = ("-" : Str)) = false := by simpa using e
    exact no e ⟨_, rfl, rfl, main _ sl⟩
end MM

set_option maxHeartbeats 3999999
/-! the words that are tried -/
namespace MM
open PySem PySem.Spec PyProof.Rows L2 GG DD LL
/-! ### a shown integer -/
theorem dg_ok : ∀ c ∈ List.range 10, dg (48 + c) = true := by decide +kernel
theorem dg_of {c : Nat} (h : 48 ≤ c ∧ c ≤ 57) : dg c = true := by
  have e := dg_ok (c - 48) (List.mem_range.mpr (by omega))
  rw [show 48 + (c - 48) = c by omega] at e
  exact e
theorem cut_one {z : Str} {c : Nat} {cs : List Nat} (h : z.cps.toList = c :: cs) : Txt.slice z none (some 1) = ⟨#[c]⟩ ∧ Txt.slice z (some 1) none = ⟨cs.toArray⟩ := by
  have hlz0 : z.length = cs.length + 1 := by
    have e : z.cps.toList.length = z.length := Array.length_toList
    rw [← e, h, List.length_cons]
  have s0 : HT.sIx z.length 0 none = 0 := rfl
  have s1 : HT.sIx z.length z.length (some 1) = 1 := by
    rw [hlz0]
    unfold HT.sIx
    simp
  have s2 : HT.sIx z.length 0 (some 1) = 1 := by
    rw [hlz0]
    unfold HT.sIx
    simp
  have s3 : HT.sIx z.length z.length none = z.length := rfl
  constructor
  · rw [← C8.cutS_slice]
    unfold cutS
    rw [s0, s1, h]
    rfl
  · rw [← C8.cutS_slice]
    unfold cutS
    rw [s2, s3, h, hlz0]
    show (⟨(cs.take (cs.length + 1 - 1)).toArray⟩ : Str) = _
    rw [Nat.add_sub_cancel, List.take_length]
theorem pre_minus {z : Str} {c : Nat} {cs : List Nat} (h : z.cps.toList = c :: cs) : figs z = if c = 45 then ⟨cs.toArray⟩ else z := by
  have hlz0 : z.length = cs.length + 1 := by
    have e : z.cps.toList.length = z.length := Array.length_toList
    rw [← e, h, List.length_cons]
  have m1 : ("-" : Str).length = 1 := by decide +kernel
  have m2 : ("-" : Str).cps.toList = [45] := by decide +kernel
  have sub : PySem.Builtin.Str.subAt z "-" 0 = decide (c = 45) := by
    rw [PySem.StrLaws.subAt_eq, m1, m2, h]
    show ([c] == [45]) = decide (c = 45)
    by_cases e : c = 45 <;> simp [e]
  unfold figs
  rw [PySem.StrLaws.removeprefix_eq, sub, m1, hlz0, h]
  by_cases e : c = 45
  · rw [if_pos e, if_pos (by rw [decide_eq_true e, decide_eq_true (by omega)]; rfl)]
    show (⟨(cs.take (cs.length + 1 - 1)).toArray⟩ : Str) = _
    rw [Nat.add_sub_cancel, List.take_length]
  · rw [if_neg e, if_neg (by rw [decide_eq_false e, Bool.and_false]; exact Bool.false_ne_true)]
theorem minus_one (c : Nat) : decide ((⟨#[c]⟩ : Str) = "-") = decide (c = 45) := by
  have e : ("-" : Str) = ⟨#[45]⟩ := by decide +kernel
  rw [e]
  by_cases h : c = 45
  · subst h
    rw [decide_eq_true rfl, decide_eq_true rfl]
  · rw [decide_eq_false h, decide_eq_false]
    intro z
    injection z with z
    have z := congrArg Array.toList z
    injection z with z _
    exact h z
/-- a text of digits, a sign ahead or none -/
theorem ok_digits {z : Str} {ds : List Nat} {n : Int} (hzz : z.cps.toList = ds ∨ z.cps.toList = 45 :: ds) (hdz : ∀ c ∈ ds, 48 ≤ c ∧ c ≤ 57) (hne : ds ≠ []) (hlz0 : ds.length ≤ 200) (hnz : PySem.intText? z = some n) (hb : n.natAbs.log2 < 1920) : InOk z := by
  have len : z.cps.toList.length = z.length := Array.length_toList
  have fg : figs z = ⟨ds.toArray⟩ ∧ (if decide (Txt.slice z none (some 1) = ("-" : Str)) = true then Txt.slice z (some 1) none else z) = figs z ∧ z.length ≤ 201 := by
    rcases hzz with hzz | hzz
    · cases ds with
      | nil => exact (hne rfl).elim
      | cons c cs =>
        have hc := hdz c List.mem_cons_self
        obtain ⟨c1, c2⟩ := cut_one hzz
        have e : figs z = z := by rw [pre_minus hzz, if_neg (by omega)]
        have ez : z = ⟨(c :: cs).toArray⟩ := by
          cases z with
          | mk a =>
            have hzz : a.toList = c :: cs := hzz
            rw [← hzz]
        refine ⟨e.trans ez, ?_, by rw [← len, hzz]; omega⟩
        rw [c1, minus_one, decide_eq_false (by omega), e]
        rfl
    · obtain ⟨c1, c2⟩ := cut_one hzz
      have e : figs z = ⟨ds.toArray⟩ := by rw [pre_minus hzz, if_pos rfl]
      refine ⟨e, ?_, by rw [← len, hzz, List.length_cons]; omega⟩
      rw [c1, c2, e]
      rfl
  obtain ⟨fg, sl, zl⟩ := fg
  have fl : (figs z).length ≤ 200 := by
    rw [fg]
    show ds.toArray.size ≤ 200
    rw [List.size_toArray]
    exact hlz0
  have al : alld z = true := by
    unfold alld
    rw [fg]
    exact List.all_eq_true.mpr fun c hc => dg_of (hdz c hc)
  have bd : bads z = [] := List.isEmpty_iff.mp (bads_nil.trans al)
  refine ⟨sl, by omega, by omega, fun _ => by rw [bd]; rfl, fun _ _ _ => by rw [hnz]; rfl, ?_⟩
  unfold outI
  split
  · split
    · exact trivial
    · rw [hnz]
      exact hb
  · exact trivial
theorem ok_shown {n : Int} (h1 : -1000000000 < n) (h2 : n < 1000000000) : InOk (Str.ofString (toString n)) := by
  have lg : n.natAbs.log2 < 1920 := log_small (by omega) (by omega)
  have len : ∀ m : Nat, m < 1000000000 → (TL.numL m).length ≤ 9 := fun m h => TL.numL_len (by decide) (by simpa using h)
  by_cases h : 0 ≤ n
  · obtain ⟨m, rfl⟩ := Int.eq_ofNat_of_zero_le h
    have hmz : m < 1000000000 := by omega
    have ll := len m hmz
    exact ok_digits (.inl (TL.tl_num m)) (TL.numL_digits m) (TL.numL_ne m) (by omega) (TL.int_num (by omega)) lg
  · obtain ⟨m, hmz⟩ := Int.eq_ofNat_of_zero_le (show 0 ≤ 0 - n by omega)
    have hm2 : m < 1000000000 := by omega
    have ll := len m hm2
    have e : (Str.ofString (toString n)).cps.toList = 45 :: TL.numL m := by
      rw [PyProof.Rows.toString_neg (by omega), hmz]
      have ez1 := TL.tl_num m
      have ez1 : (Str.ofString (toString ((m : Nat) : Int))).cps.toList = TL.numL m := ez1
      rw [Str.ofString_eq_toList] at ez1 ⊢
      have ez1 : (toString ((m : Nat) : Int)).toList.map Char.toNat = TL.numL m := ez1
      show (("-" ++ toString ((m : Nat) : Int)).toList.map Char.toNat) = _
      rw [String.toList_append, List.map_append, ez1]
      rfl
    have hzz : (Str.ofString (toString n)).length ≤ 4300 := by
      have ez1 : (Str.ofString (toString n)).cps.toList.length = (Str.ofString (toString n)).length := Array.length_toList
      rw [← ez1, e, List.length_cons]
      omega
    have hi := PySem.intText_neg e (TL.numL_digits m) (TL.numL_ne m) hzz
    rw [TL.numL_val] at hi
    exact ok_digits (n := n) (.inr e) (TL.numL_digits m) (TL.numL_ne m) (by omega) (by rw [hi]; congr 1; omega) lg
end MM

set_option maxHeartbeats 3999999
/-! the words that are tried -/
namespace MM
open PySem PySem.Spec PyProof.Rows L2 GG DD LL
def scB : PD → Bool
  | .int i => decide (i.natAbs.log2 < 1920)
  | .none => true
  | .bool _ => true
  | _ => false
theorem sc_of {d : PD} (h : scB d = true) : Sc d := by
  cases d with
  | none => exact trivial
  | bool c => exact trivial
  | int i => exact (of_decide_eq_true h : i.natAbs.log2 < 1920)
  | str x => exact (Bool.false_ne_true h).elim
  | list x => exact (Bool.false_ne_true h).elim
  | tuple x => exact (Bool.false_ne_true h).elim
  | dict x => exact (Bool.false_ne_true h).elim
def okW (z : Str) : Bool := decide ((if decide (Txt.slice z none (some 1) = ("-" : Str)) = true then Txt.slice z (some 1) none else z) = figs z) && (Nat.ble z.length 640 && (Nat.ble (figs z).length 640 &&
  ((!(rng z) || SeqAt.shaped (.list (bads z))) && ((!(rng z) || (!(alld z) || ((led0 z && !(is0 z)) || (PySem.intText? z).isSome))) && scB (outI z)))))
theorem ok_of {z : Str} (h : okW z = true) : InOk z := by
  unfold okW at h
  simp only [Bool.and_eq_true, decide_eq_true_eq] at h
  obtain ⟨h1, h2, h3, h4, h5, h6⟩ := h
  refine ⟨by simpa only [decide_eq_true_eq] using h1, Nat.le_of_ble_eq_true h2, Nat.le_of_ble_eq_true h3, fun r => ?_, fun r a l => ?_, sc_of h6⟩
  · rw [r] at h4
    simpa using h4
  · rw [r, a, l] at h5
    simpa using h5
def WORDS1 : List Str := ["0", "-0", "7", "-7", "07", "+7", "-", "", "1_0", " 1", "x", repS "9" 200, "1" ++ repS "0" 200, "-" ++ repS "9" 200]
def WORDS2 : List Str := ["1.0", "--5", "5-", "-07", "7\n"]
theorem words1_ok : ∀ z ∈ WORDS1, okW z = true := by decide +kernel
theorem words2_ok : ∀ z ∈ WORDS2, okW z = true := by decide +kernel
end MM

set_option maxHeartbeats 3999999
/-! the law as a whole -/
namespace MM
open PySem PySem.Spec PyProof.Rows L2 GG DD LL
def fAnySort : Fm := fun ws Q => ws = [.bag] ∧ ∀ s : Srt, Q (.d (srtD s))
theorem w_anySort (ws Q) (h : fAnySort ws Q) : bodyW 2 (m_law_any_sort fName fSome) ws Q := by
  obtain ⟨rfl, q⟩ := h
  refine ⟨_, rfl, sz rfl, _, rfl, sz rfl, _, rfl, _, rfl, sz rfl, rfl, some_of rfl (by simp) (ln rfl) ?_⟩
  intro n hnz
  have okn : IntIn 1 1000 n := by
    simp only [List.mem_cons, List.not_mem_nil, or_false] at hnz
    rcases hnz with rfl | rfl | rfl <;> exact intIn
  refine ⟨_, rfl, sz rfl, _, rfl, rfl, rfl, ?_⟩
  intro x hxz
  refine ⟨_, rfl, sz rfl, _, rfl, sz rfl, ?_⟩
  refine ⟨_, rfl, _, rfl, _, rfl, rfl, rfl, ?_⟩
  intro y hy
  refine ⟨_, rfl, sz rfl, _, rfl, sz rfl, _, _, rfl, rfl, sz rfl, rfl, some_of rfl (by simp) (ln rfl) ?_⟩
  intro d hdz
  refine ⟨rfl, ?_⟩
  simp only [List.cons_append, List.nil_append, List.mem_cons, List.not_mem_nil, or_false] at hdz
  obtain ⟨i, rfl, _, _⟩ := okn
  rcases hdz with rfl | rfl | rfl | rfl | rfl
  · exact q .int
  · exact q .int
  · exact q (.below i)
  · exact q (.ref x)
  · exact q (.may y)
theorem cpow10 {j : Int} (h : 0 ≤ j := by decide) (h' : j ≤ 1000000 := by decide) : CPow 10 j := ⟨h, h', by decide⟩
def fOdd : Fm := fun ws Q => ws = [.bag] ∧ ∀ d, Q (.d d)
theorem w_odd (ws Q) (h : fOdd ws Q) : bodyW 2 (m_law_odd fSome) ws Q := by
  obtain ⟨rfl, q⟩ := h
  refine ⟨_, rfl, _, _, rfl, rfl, cpow10, _, rfl, sz rfl, _, rfl, sz rfl, _, rfl, sz rfl, _, rfl, sz rfl, _, rfl, sz rfl, _, rfl, sz rfl, _, rfl, sz rfl, ?_⟩
  refine ⟨_, rfl, _, rfl, sz rfl, _, rfl, sz rfl, _, rfl, sz rfl, _, rfl, sz rfl, _, rfl, sz rfl, _, rfl, sz rfl, _, rfl, sz rfl, _, rfl, sz rfl, _, _, rfl, rfl, sz rfl, ?_⟩
  refine ⟨_, rfl, _, rfl, sz rfl, _, rfl, sz rfl, _, rfl, sz rfl, _, rfl, sz rfl, _, rfl, sz rfl, _, rfl, sz rfl, _, rfl, sz rfl, _, rfl, sz rfl, _, rfl, sz rfl, _, _, rfl, rfl, rfl, _, rfl, sz rfl, _, _, rfl, rfl, sz rfl, ?_⟩
  exact ⟨_, rfl, _, rfl, _, rfl, sz rfl, _, rfl, sz rfl, _, rfl, sz rfl, _, rfl, sz rfl, _, _, rfl, rfl, sz rfl, rfl, some_of rfl (by simp) (ln rfl) fun d _ => ⟨rfl, q d⟩⟩
def edge : Srt → Int
  | .below n => n
  | _ => 4
theorem w_edge {s : Srt} {e0 ez1 ez2 : E} {r : En} {Q : W → Prop} (q : Q (.d (.int (edge s)))) :
    ifW (testW (opW eqSF (opW ixF (varW 3) (conW (.int 0))) (conW (.str "below")))) (opW ixF (varW 3) (conW (.int 1))) (conW (.int 4)) (e0 :: ez1 :: ez2 :: .v (.d (srtD s)) :: r) Q := by
  cases s with
  | below n => exact ⟨_, rfl, _, _, rfl, rfl, _, _, rfl, rfl, _, rfl, yes (by decide +kernel) ⟨_, rfl, _, _, rfl, rfl, q⟩⟩
  | int => exact ⟨_, rfl, _, _, rfl, rfl, _, _, rfl, rfl, _, rfl, no (by decide +kernel) q⟩
  | ref x => exact ⟨_, rfl, _, _, rfl, rfl, _, _, rfl, rfl, _, rfl, no (by decide +kernel) q⟩
  | may x => exact ⟨_, rfl, _, _, rfl, rfl, _, _, rfl, rfl, _, rfl, no (by decide +kernel) q⟩
abbrev EN (ez2 e3 e4 e5 e6 e7 e8 e9 e10 e11 e12 e13 : E) : En := [.un, .v .bag, ez2, e3, e4, e5, e6, e7, e8, e9, e10, e11, e12, e13]
theorem vals_of {ys : List PD} (h : ∀ y ∈ ys, IsVal y) : ∀ x ∈ ys, IsVal x := h
theorem w_law : mlaw fRight fAnyWay fAnySort fOdd fSame fFits fFits fSchema fSome fRow fRow takeF fInt fInt envlaw (outV fun w => w = .d (.bool true)) := by
  refine ⟨(6 : Int), rfl, by decide, by decide, ?_⟩
  refine loop_over (fun i : Nat => WI.d (.int (i : Nat))) (fun _ env => ∃ ez2 e3 e4 e5, env = EN ez2 e3 e4 e5 .un .un .un .un .un .un .un .un) (List.range 6) 0 _ _ ?_ ⟨_, _, _, _, rfl⟩ ?_
  · rintro j i env _ ⟨ez2, e3, e4, e5, rfl⟩ Qo k
    refine ⟨_, rfl, ?_⟩
    refine ⟨_, rfl, _, rfl, rfl, rfl, fun wy okw => ⟨rfl, wy, rfl, okw, _, rfl, no rfl ?_⟩⟩
    refine ⟨_, rfl, rfl, rfl, fun s => ⟨rfl, ?_⟩⟩
    refine w_edge (e0 := .un) (ez1 := .v .bag) ⟨rfl, ?_⟩
    refine ⟨_, rfl, _, rfl, _, rfl, _, _, rfl, rfl, trivial, _, _, rfl, rfl, cpow10, _, rfl, sz rfl, _, rfl, rfl, rfl, fun od => ?_⟩
    refine ⟨_, rfl, sz rfl, _, rfl, ?_⟩
    refine loop_over WI.d (fun _ env => ∃ e5, env = EN (.v (.d (.int (i : Nat)))) (.v (.d (srtD s))) (.v (.d (.int (edge s)))) e5 .un .un .un .un .un .un .un .un) _ 0 _ _ ?_ ⟨_, rfl⟩ ?_
    · rintro j2 t env _ ⟨e5, rfl⟩ Qo2 k2
      refine ⟨_, rfl, ?_⟩
      exact ⟨_, rfl, _, rfl, rfl, s, t, rfl, _, rfl, _, rfl, rfl, s, t, rfl, rfl, _, rfl, trivial, _, rfl, no rfl (k2 _ ⟨_, rfl⟩)⟩
    · rintro env ⟨e5, rfl⟩
      exact k _ ⟨_, _, _, _, rfl⟩
  · rintro env ⟨ez2, e3, e4, e5, rfl⟩
    refine ⟨_, rfl, rfl, (3 : Int), by decide, by decide, rfl, fun s g => ⟨rfl, ?_⟩⟩
    refine ⟨_, rfl, _, _, rfl, rfl, _, rfl, ?_⟩
    rw [List.map_map]
    refine loop_over (WI.d ∘ tabP) (fun _ env => ∃ e7 e8 e9 e10 e11, env = EN ez2 e3 e4 e5 (.v (.d (sD s))) e7 e8 e9 e10 e11 .un .un) s.ts 0 _ _ ?_ ⟨_, _, _, _, _, rfl⟩ ?_
    · rintro j ⟨n, t⟩ env hj ⟨e7, e8, e9, e10, e11, rfl⟩ Qo k
      have hmz : (n, t) ∈ s.ts := List.mem_of_getElem? hj
      have hc : t.cols.length ≤ 4 := (g.tab _ hmz).n
      refine ⟨_, rfl, rfl, _, _, rfl, ⟨_, rfl, _, _, rfl, ⟨_, rfl, rfl, _, _, rfl, ⟨_, rfl, _, _, rfl, ⟨_, rfl, rfl, rfl, ?_⟩⟩⟩⟩⟩
      refine ⟨_, rfl, _, rfl, ?_⟩
      refine lc_any WI.d IsVal (t.cols.map DD.pairD) [] _ ?_ (by rw [List.length_map, List.length_nil]; omega) ?_
      · intro a _ Qx qx
        refine ⟨_, rfl, yt (B := Qx none) ⟨_, rfl, _, rfl, _, rfl, sz rfl, rfl, some_of rfl (by simp) (ln rfl) fun x hxz => ⟨_, rfl, qx _ ?_⟩⟩⟩
        simp only [List.mem_cons, List.not_mem_nil, or_false] at hxz
        rcases hxz with rfl | rfl | rfl | rfl | rfl | rfl
        · exact .inr ⟨_, rfl⟩
        · exact .inr ⟨_, rfl⟩
        · exact .inr ⟨_, rfl⟩
        · exact .inr ⟨_, rfl⟩
        · exact .inl rfl
        · exact .inr ⟨_, rfl⟩
      · intro ys hy py
        rw [List.length_map] at hy
        obtain ⟨ss, es⟩ := srts_of fun c hc => ((g.tab _ hmz).so c hc).1
        have es : t.cols.map Prod.snd = ss.map srtD := es
        refine ⟨_, _, rfl, .inl rfl, rfl, ?_⟩
        exact ⟨_, rfl, _, rfl, _, rfl, rfl, s, n, t, ss, ys, g, hmz, es, rfl, hy, py, _, rfl, _, rfl, _, rfl, rfl, s, n, t, ss, ys, g, hmz, es, rfl, hy, py, rfl, _, rfl, trivial, _, rfl, no rfl (k _ ⟨_, _, _, _, _, rfl⟩)⟩
    · rintro env ⟨e7, e8, e9, e10, e11, rfl⟩
      refine ⟨_, 200, rfl, rfl, by decide, by decide, by decide +kernel, by decide +kernel, _, 200, rfl, rfl, by decide, by decide, by decide +kernel, by decide +kernel, _, _, rfl, rfl, sz (by decide +kernel), _, 200, rfl, rfl, by decide, by decide, by decide +kernel, by decide +kernel, _, _, rfl, rfl, sz (by decide +kernel), _, rfl, sz rfl, ?_⟩
      refine ⟨_, rfl, _, rfl, _, _, rfl, rfl, cpow10, rfl, _, rfl, by decide, by decide, fun v v0 v1 => ?_⟩
      have p9 : (10 : Int) ^ ((9 : Int).toNat) = 1000000000 := by decide
      have p8 : (10 : Int) ^ ((8 : Int).toNat) = 100000000 := by decide
      rw [p9] at v1
      refine ⟨_, _, rfl, rfl, cpow10, _, _, rfl, rfl, .inl ⟨by decide, by decide⟩, _, _, rfl, rfl, trivial, ?_⟩
      have b1 : -1000000000 < v - 5 * (10 : Int) ^ ((8 : Int).toNat) := by
        rw [p8]
        omega
      have b2 : v - 5 * (10 : Int) ^ ((8 : Int).toNat) < 1000000000 := by
        rw [p8]
        omega
      refine ⟨_, rfl, log_small (by omega) (by omega), _, rfl, sz rfl, _, _, rfl, rfl, sz rfl, _, rfl, ?_⟩
      refine loop_over (fun z : Str => WI.d (.str z)) (fun _ env => ∃ e13, env = EN ez2 e3 e4 e5 (.v (.d (sD s))) e7 e8 e9 e10 e11 (.own (WORDS1.map PyData.str)) e13) (WORDS1 ++ (WORDS2 ++ [Str.ofString (toString (v - 5 * (10 : Int) ^ ((8 : Int).toNat)))])) 0 _ _ ?_ ⟨_, rfl⟩ ?_
      · rintro j z env hj ⟨e13, rfl⟩ Qo k
        have ok : InOk z := by
          rcases List.mem_append.mp (List.mem_of_getElem? hj) with h | h
          · exact ok_of (words1_ok z h)
          · rcases List.mem_append.mp h with h | h
            · exact ok_of (words2_ok z h)
            · rw [List.mem_singleton.mp h]
              exact ok_shown b1 b2
        refine ⟨_, rfl, ?_⟩
        exact ⟨_, rfl, rfl, z, rfl, ok, _, rfl, rfl, z, rfl, ok, rfl, _, rfl, ok.sc, _, rfl, no rfl (k _ ⟨_, rfl⟩)⟩
      · rintro env ⟨e13, rfl⟩
        exact ⟨rfl, rfl⟩
end MM

set_option maxHeartbeats 3999999
/-! all defs together -/
namespace ZZ
open PySem PySem.Spec PyProof.Rows L2 GG DD LL MM
theorem spd_up {K : PySem.W.Frag} {b : BP} {n : Nat} {f g : Fm} (h : ∀ ws Q, f ws Q → g ws Q) : ∀ vs H Q E, spD K b n f vs H Q E → spD K b n g vs H Q E := by
  rintro vs H Q E ⟨hlz0, M, ws, Qa, m1, m2, dom, bg, p, q, k⟩
  exact ⟨hlz0, M, ws, Qa, m1, m2, dom, bg, p, h ws Qa q, k⟩
theorem spf_up {K : PySem.W.Frag} {b : BP} {n : Nat} {f g : FmF} (h : ∀ ws Q, f ws Q → g ws Q) : ∀ vs H Q E, spF K b n f vs H Q E → spF K b n g vs H Q E := by
  rintro vs H Q E ⟨hlz0, M, ws, Qa, m1, m2, dom, bg, p, q, k⟩
  exact ⟨hlz0, M, ws, Qa, m1, m2, dom, bg, p, h ws Qa q, k⟩
/-- a def of the text, all that is known of it -/
structure Has (K : PySem.W.Frag) (mg : Str → Option Value) (x : Str) (st : Stmt) (f : Addr) (fd : FuncData) (ps : List Str) : Prop where
  F : L2.Fun K x x st f fd
  mg : mg x = some (.ref f)
  bi : Binds K fd ps []
section
variable {P : Program} {w : World} {K : PySem.W.Frag} {mg : Str → Option Value} {base : Heap}
theorem all_ok {f CN fN : Addr} {fd fdN : FuncData} (Z : Nones mg) (ZN : Err P w K mg base "NoCommand" CN fN fdN)
    {f_law_take : Addr} {fd_law_take : FuncData} (H_law_take : Has K mg "_law_take" sTake f_law_take fd_law_take ["bag", "many"])
    {f_law_some : Addr} {fd_law_some : FuncData} (H_law_some : Has K mg "_law_some" s_law_some f_law_some fd_law_some ["bag", "things"])
    {f_law_mixed : Addr} {fd_law_mixed : FuncData} (H_law_mixed : Has K mg "_law_mixed" s_law_mixed f_law_mixed fd_law_mixed ["bag", "things"])
    {f_law_alike : Addr} {fd_law_alike : FuncData} (H_law_alike : Has K mg "_law_alike" s_law_alike f_law_alike fd_law_alike ["found", "due"])
    {f_law_check : Addr} {fd_law_check : FuncData} (H_law_check : Has K mg "_law_check" s_law_check f_law_check fd_law_check ["bag", "columns"])
    {f_law_schema : Addr} {fd_law_schema : FuncData} (H_law_schema : Has K mg "_law_schema" s_law_schema f_law_schema fd_law_schema ["bag", "most"])
    {f_law_any_way : Addr} {fd_law_any_way : FuncData} (H_law_any_way : Has K mg "_law_any_way" s_law_any_way f_law_any_way fd_law_any_way ["bag"])
    {f_law_any_name : Addr} {fd_law_any_name : FuncData} (H_law_any_name : Has K mg "_law_any_name" s_law_any_name f_law_any_name fd_law_any_name ["bag"])
    {f_law_any_sort : Addr} {fd_law_any_sort : FuncData} (H_law_any_sort : Has K mg "_law_any_sort" s_law_any_sort f_law_any_sort fd_law_any_sort ["bag"])
    {f_law_odd : Addr} {fd_law_odd : FuncData} (H_law_odd : Has K mg "_law_odd" s_law_odd f_law_odd fd_law_odd ["bag"])
    {fled : Addr} {fdled : FuncData} (Hled : Has K mg "led" sled fled fdled ["way", "x"])
    {f_law_due_led : Addr} {fd_law_due_led : FuncData} (H_law_due_led : Has K mg "_law_due_led" s_law_due_led f_law_due_led fd_law_due_led ["way", "x"])
    {f_law_is_way_right : Addr} {fd_law_is_way_right : FuncData} (H_law_is_way_right : Has K mg "_law_is_way_right" s_law_is_way_right f_law_is_way_right fd_law_is_way_right ["bag", "way"])
    {fis_integer : Addr} {fdis_integer : FuncData} (His_integer : Has K mg "is_integer" sis_integer fis_integer fdis_integer ["thing"])
    {f_law_is_int : Addr} {fd_law_is_int : FuncData} (H_law_is_int : Has K mg "_law_is_int" s_law_is_int f_law_is_int fd_law_is_int ["thing"])
    {ffits_sort : Addr} {fdfits_sort : FuncData} (Hfits_sort : Has K mg "fits_sort" sfits_sort ffits_sort fdfits_sort ["sort", "thing"])
    {f_law_any_fits : Addr} {fd_law_any_fits : FuncData} (H_law_any_fits : Has K mg "_law_any_fits" s_law_any_fits f_law_any_fits fd_law_any_fits ["sort", "thing"])
    {f_law_sort_fits : Addr} {fd_law_sort_fits : FuncData} (H_law_sort_fits : Has K mg "_law_sort_fits" s_law_sort_fits f_law_sort_fits fd_law_sort_fits ["sort", "thing"])
    {fis_value : Addr} {fdis_value : FuncData} (His_value : Has K mg "is_value" sis_value fis_value fdis_value ["thing"])
    {fis_tuple_of : Addr} {fdis_tuple_of : FuncData} (His_tuple_of : Has K mg "is_tuple_of" sis_tuple_of fis_tuple_of fdis_tuple_of ["thing", "many"])
    {f_sorts_in : Addr} {fd_sorts_in : FuncData} (H_sorts_in : Has K mg "_sorts_in" s_sorts_in f_sorts_in fd_sorts_in ["schema", "table"])
    {fis_row : Addr} {fdis_row : FuncData} (His_row : Has K mg "is_row" sis_row fis_row fdis_row ["schema", "table", "thing"])
    {ffits_row : Addr} {fdfits_row : FuncData} (Hfits_row : Has K mg "fits_row" sfits_row ffits_row fdfits_row ["schema", "table", "row"])
    {f_law_table_of : Addr} {fd_law_table_of : FuncData} (H_law_table_of : Has K mg "_law_table_of" s_law_table_of f_law_table_of fd_law_table_of ["schema", "name"])
    {f_law_row_fits : Addr} {fd_law_row_fits : FuncData} (H_law_row_fits : Has K mg "_law_row_fits" s_law_row_fits f_law_row_fits fd_law_row_fits ["schema", "table", "row"])
    {finteger_in : Addr} {fdinteger_in : FuncData} (Hinteger_in : Has K mg "integer_in" sinteger_in finteger_in fdinteger_in ["word"])
    {f_law_integer_in : Addr} {fd_law_integer_in : FuncData} (H_law_integer_in : Has K mg "_law_integer_in" s_law_integer_in f_law_integer_in fd_law_integer_in ["word"])
    {f_law_bag : Addr} {fd_law_bag : FuncData} (H_law_bag : Has K mg "_law_bag" s_law_bag f_law_bag fd_law_bag ["script"])
    (F : L2.Fun K "law" "law" slaw f fd) : GFn P w K mg base CX0 6 f fd ["script"] (spLaw K) := by
  have D_law_take : ∀ b : BP, Dfn P w K mg base 1 f_law_take fd_law_take "_law_take" ["bag", "many"] (spD K b 2 takeF) := fun b => ⟨ok_take H_law_take.F Z.zint, H_law_take.mg, H_law_take.F.kp, H_law_take.bi⟩
  have D_law_some : ∀ b : BP, Dfn P w K mg base 2 f_law_some fd_law_some "_law_some" ["bag", "things"] (spD K b 2 fSome) := fun b => ⟨(ok_law_some takeF Z (D_law_take b) H_law_some.F).imp (spd_up w_some), H_law_some.mg, H_law_some.F.kp, H_law_some.bi⟩
  have D_law_mixed : ∀ b : BP, Dfn P w K mg base 2 f_law_mixed fd_law_mixed "_law_mixed" ["bag", "things"] (spF K b 2 fMixed) := fun b => ⟨(ok_law_mixed takeF Z (D_law_take b) H_law_mixed.F).imp (spf_up w_mixed), H_law_mixed.mg, H_law_mixed.F.kp, H_law_mixed.bi⟩
  have D_law_alike : ∀ b : BP, Dfn P w K mg base 1 f_law_alike fd_law_alike "_law_alike" ["found", "due"] (spD K b 2 fSame) := fun b => ⟨(ok_law_alike  Z  H_law_alike.F).imp (spd_up w_same), H_law_alike.mg, H_law_alike.F.kp, H_law_alike.bi⟩
  have D_law_check : ∀ b : BP, Dfn P w K mg base 3 f_law_check fd_law_check "_law_check" ["bag", "columns"] (spD K b 2 fCheck) := fun b => ⟨(ok_law_check takeF fSome Z (D_law_take b) (D_law_some b) H_law_check.F).imp (spd_up w_check), H_law_check.mg, H_law_check.F.kp, H_law_check.bi⟩
  have D_law_schema : ∀ b : BP, Dfn P w K mg base 4 f_law_schema fd_law_schema "_law_schema" ["bag", "most"] (spD K b 2 fSchema) := fun b => ⟨(ok_law_schema fMixed takeF fSome fCheck Z (D_law_mixed b) (D_law_take b) (D_law_some b) (D_law_check b) H_law_schema.F).imp (spd_up w_schema), H_law_schema.mg, H_law_schema.F.kp, H_law_schema.bi⟩
  have D_law_any_way : ∀ b : BP, Dfn P w K mg base 3 f_law_any_way fd_law_any_way "_law_any_way" ["bag"] (spD K b 1 fAnyWay) := fun b => ⟨(ok_law_any_way fSome takeF Z (D_law_some b) (D_law_take b) H_law_any_way.F).imp (spd_up w_anyWay), H_law_any_way.mg, H_law_any_way.F.kp, H_law_any_way.bi⟩
  have D_law_any_name : ∀ b : BP, Dfn P w K mg base 3 f_law_any_name fd_law_any_name "_law_any_name" ["bag"] (spD K b 1 fName) := fun b => ⟨(ok_law_any_name fSome Z (D_law_some b) H_law_any_name.F).imp (spd_up w_name), H_law_any_name.mg, H_law_any_name.F.kp, H_law_any_name.bi⟩
  have D_law_any_sort : ∀ b : BP, Dfn P w K mg base 4 f_law_any_sort fd_law_any_sort "_law_any_sort" ["bag"] (spD K b 1 fAnySort) := fun b => ⟨(ok_law_any_sort fName fSome Z (D_law_any_name b) (D_law_some b) H_law_any_sort.F).imp (spd_up w_anySort), H_law_any_sort.mg, H_law_any_sort.F.kp, H_law_any_sort.bi⟩
  have D_law_odd : ∀ b : BP, Dfn P w K mg base 3 f_law_odd fd_law_odd "_law_odd" ["bag"] (spD K b 1 fOdd) := fun b => ⟨(ok_law_odd fSome Z (D_law_some b) H_law_odd.F).imp (spd_up w_odd), H_law_odd.mg, H_law_odd.F.kp, H_law_odd.bi⟩
  have Dled : ∀ b : BP, Dfn P w K mg base 1 fled fdled "led" ["way", "x"] (spD K b 2 fLed) := fun b => ⟨(okled  Z  Hled.F).imp (spd_up w_led), Hled.mg, Hled.F.kp, Hled.bi⟩
  have D_law_due_led : ∀ b : BP, Dfn P w K mg base 1 f_law_due_led fd_law_due_led "_law_due_led" ["way", "x"] (spD K b 2 fLed) := fun b => ⟨(ok_law_due_led  Z  H_law_due_led.F).imp (spd_up w_due), H_law_due_led.mg, H_law_due_led.F.kp, H_law_due_led.bi⟩
  have D_law_is_way_right : ∀ b : BP, Dfn P w K mg base 2 f_law_is_way_right fd_law_is_way_right "_law_is_way_right" ["bag", "way"] (spD K b 2 fRight) := fun b => ⟨(ok_law_is_way_right takeF fSame fLed fLed Z (D_law_take b) (D_law_alike b) (D_law_due_led b) (Dled b) H_law_is_way_right.F).imp (spd_up w_right), H_law_is_way_right.mg, H_law_is_way_right.F.kp, H_law_is_way_right.bi⟩
  have Dis_integer : ∀ b : BP, Dfn P w K mg base 1 fis_integer fdis_integer "is_integer" ["thing"] (spD K b 1 fIsInt) := fun b => ⟨(okis_integer  Z  His_integer.F).imp (spd_up w_isInt), His_integer.mg, His_integer.F.kp, His_integer.bi⟩
  have D_law_is_int : ∀ b : BP, Dfn P w K mg base 1 f_law_is_int fd_law_is_int "_law_is_int" ["thing"] (spD K b 1 fIsInt) := fun b => ⟨(ok_law_is_int  Z  H_law_is_int.F).imp (spd_up w_isInt2), H_law_is_int.mg, H_law_is_int.F.kp, H_law_is_int.bi⟩
  have Dfits_sort : ∀ b : BP, Dfn P w K mg base 2 ffits_sort fdfits_sort "fits_sort" ["sort", "thing"] (spD K b 2 fFits) := fun b => ⟨(okfits_sort fIsInt Z (Dis_integer b) Hfits_sort.F).imp (spd_up w_fits), Hfits_sort.mg, Hfits_sort.F.kp, Hfits_sort.bi⟩
  have D_law_any_fits : ∀ b : BP, Dfn P w K mg base 2 f_law_any_fits fd_law_any_fits "_law_any_fits" ["sort", "thing"] (spD K b 2 fFits) := fun b => ⟨(ok_law_any_fits fIsInt Z (D_law_is_int b) H_law_any_fits.F).imp (spd_up w_anyFits), H_law_any_fits.mg, H_law_any_fits.F.kp, H_law_any_fits.bi⟩
  have D_law_sort_fits : ∀ b : BP, Dfn P w K mg base 1 f_law_sort_fits fd_law_sort_fits "_law_sort_fits" ["sort", "thing"] (spD K b 2 fFits2) := fun b => ⟨(ok_law_sort_fits  Z  H_law_sort_fits.F).imp (spd_up w_sortFits), H_law_sort_fits.mg, H_law_sort_fits.F.kp, H_law_sort_fits.bi⟩
  have Dis_value : ∀ b : BP, Dfn P w K mg base 2 fis_value fdis_value "is_value" ["thing"] (spD K b 1 fIsVal) := fun b => ⟨(okis_value fIsInt Z (Dis_integer b) His_value.F).imp (spd_up w_isVal), His_value.mg, His_value.F.kp, His_value.bi⟩
  have Dis_tuple_of : ∀ b : BP, Dfn P w K mg base 1 fis_tuple_of fdis_tuple_of "is_tuple_of" ["thing", "many"] (spD K b 2 fIsTup) := fun b => ⟨(okis_tuple_of  Z  His_tuple_of.F).imp (spd_up w_isTup), His_tuple_of.mg, His_tuple_of.F.kp, His_tuple_of.bi⟩
  have D_sorts_in : ∀ b : BP, Dfn P w K mg base 1 f_sorts_in fd_sorts_in "_sorts_in" ["schema", "table"] (spD K b 2 fSortsIn) := fun b => ⟨(ok_sorts_in  Z  H_sorts_in.F).imp (spd_up w_sortsIn), H_sorts_in.mg, H_sorts_in.F.kp, H_sorts_in.bi⟩
  have Dis_row : ∀ b : BP, Dfn P w K mg base 3 fis_row fdis_row "is_row" ["schema", "table", "thing"] (spD K b 3 fIsRow) := fun b => ⟨(okis_row fIsVal fIsTup fSortsIn Z (Dis_value b) (Dis_tuple_of b) (D_sorts_in b) His_row.F).imp (spd_up w_isRow), His_row.mg, His_row.F.kp, His_row.bi⟩
  have Dfits_row : ∀ b : BP, Dfn P w K mg base 4 ffits_row fdfits_row "fits_row" ["schema", "table", "row"] (spD K b 3 fRow) := fun b => ⟨(okfits_row fIsRow fSortsIn fFits Z (Dis_row b) (D_sorts_in b) (Dfits_sort b) Hfits_row.F).imp (spd_up w_fitsRow), Hfits_row.mg, Hfits_row.F.kp, Hfits_row.bi⟩
  have D_law_table_of : ∀ b : BP, Dfn P w K mg base 1 f_law_table_of fd_law_table_of "_law_table_of" ["schema", "name"] (spD K b 2 fTable) := fun b => ⟨(ok_law_table_of  Z  H_law_table_of.F).imp (spd_up w_table), H_law_table_of.mg, H_law_table_of.F.kp, H_law_table_of.bi⟩
  have D_law_row_fits : ∀ b : BP, Dfn P w K mg base 2 f_law_row_fits fd_law_row_fits "_law_row_fits" ["schema", "table", "row"] (spD K b 3 fRow) := fun b => ⟨(ok_law_row_fits fTable fFits2 Z (D_law_table_of b) (D_law_sort_fits b) H_law_row_fits.F).imp (spd_up w_lawRow), H_law_row_fits.mg, H_law_row_fits.F.kp, H_law_row_fits.bi⟩
  have Dinteger_in : ∀ b : BP, Dfn P w K mg base 1 finteger_in fdinteger_in "integer_in" ["word"] (spD K b 1 fInt) := fun b => ⟨(okinteger_in  Z  Hinteger_in.F).imp (spd_up w_intIn), Hinteger_in.mg, Hinteger_in.F.kp, Hinteger_in.bi⟩
  have D_law_integer_in : ∀ b : BP, Dfn P w K mg base 1 f_law_integer_in fd_law_integer_in "_law_integer_in" ["word"] (spD K b 1 fInt) := fun b => ⟨(ok_law_integer_in  Z  H_law_integer_in.F).imp (spd_up w_lawInt), H_law_integer_in.mg, H_law_integer_in.F.kp, H_law_integer_in.bi⟩
  exact oklaw fRight fAnyWay fAnySort fOdd fSame fFits fFits fSchema fSome fRow fRow takeF fInt fInt Z ZN ⟨ok_law_bag Z H_law_bag.F, H_law_bag.mg, H_law_bag.F.kp, H_law_bag.bi⟩
    ⟨gfn_any fun b _ => (D_law_is_way_right b).gfn, H_law_is_way_right.mg, H_law_is_way_right.F.kp, H_law_is_way_right.bi⟩
    ⟨gfn_any fun b _ => (D_law_any_way b).gfn, H_law_any_way.mg, H_law_any_way.F.kp, H_law_any_way.bi⟩
    ⟨gfn_any fun b _ => (D_law_any_sort b).gfn, H_law_any_sort.mg, H_law_any_sort.F.kp, H_law_any_sort.bi⟩
    ⟨gfn_any fun b _ => (D_law_odd b).gfn, H_law_odd.mg, H_law_odd.F.kp, H_law_odd.bi⟩
    ⟨gfn_any fun b _ => (D_law_alike b).gfn, H_law_alike.mg, H_law_alike.F.kp, H_law_alike.bi⟩
    ⟨gfn_any fun b _ => (D_law_any_fits b).gfn, H_law_any_fits.mg, H_law_any_fits.F.kp, H_law_any_fits.bi⟩
    ⟨gfn_any fun b _ => (Dfits_sort b).gfn, Hfits_sort.mg, Hfits_sort.F.kp, Hfits_sort.bi⟩
    ⟨gfn_any fun b _ => (D_law_schema b).gfn, H_law_schema.mg, H_law_schema.F.kp, H_law_schema.bi⟩
    ⟨gfn_any fun b _ => (D_law_some b).gfn, H_law_some.mg, H_law_some.F.kp, H_law_some.bi⟩
    ⟨gfn_any fun b _ => (D_law_row_fits b).gfn, H_law_row_fits.mg, H_law_row_fits.F.kp, H_law_row_fits.bi⟩
    ⟨gfn_any fun b _ => (Dfits_row b).gfn, Hfits_row.mg, Hfits_row.F.kp, Hfits_row.bi⟩
    ⟨gfn_any fun b _ => (D_law_take b).gfn, H_law_take.mg, H_law_take.F.kp, H_law_take.bi⟩
    ⟨gfn_any fun b _ => (D_law_integer_in b).gfn, H_law_integer_in.mg, H_law_integer_in.F.kp, H_law_integer_in.bi⟩
    ⟨gfn_any fun b _ => (Dinteger_in b).gfn, Hinteger_in.mg, Hinteger_in.F.kp, Hinteger_in.bi⟩
    F w_law
end
end ZZ

set_option maxHeartbeats 3999999
namespace ZZ
open PySem PySem.Spec PyProof.Rows L2 GG DD LL MM
theorem all_mk {l : PySem.W.OpenLaw} {w : World} {K : PySem.W.Frag} {h : Heap} {mg : Str → Option Value} {fa : Addr} (X : K.In h) (G : h.Ns mainGlobals mg) (hfa : mg "law" = some (.ref fa))
    {f0 : Addr} {oc0 kV0 dc0 pm0 cd0 ct0 : Value} {od0 an0 : Option Addr} {sl0 : Array (Option Value)}
    {f1 : Addr} {oc1 kV1 dc1 pm1 cd1 ct1 : Value} {od1 an1 : Option Addr} {sl1 : Array (Option Value)}
    {f2 : Addr} {oc2 kV2 dc2 pm2 cd2 ct2 : Value} {od2 an2 : Option Addr} {sl2 : Array (Option Value)}
    {f3 : Addr} {oc3 kV3 dc3 pm3 cd3 ct3 : Value} {od3 an3 : Option Addr} {sl3 : Array (Option Value)}
    {f4 : Addr} {oc4 kV4 dc4 pm4 cd4 ct4 : Value} {od4 an4 : Option Addr} {sl4 : Array (Option Value)}
    {f5 : Addr} {oc5 kV5 dc5 pm5 cd5 ct5 : Value} {od5 an5 : Option Addr} {sl5 : Array (Option Value)}
    {f6 : Addr} {oc6 kV6 dc6 pm6 cd6 ct6 : Value} {od6 an6 : Option Addr} {sl6 : Array (Option Value)}
    {f7 : Addr} {oc7 kV7 dc7 pm7 cd7 ct7 : Value} {od7 an7 : Option Addr} {sl7 : Array (Option Value)}
    {f8 : Addr} {oc8 kV8 dc8 pm8 cd8 ct8 : Value} {od8 an8 : Option Addr} {sl8 : Array (Option Value)}
    {f9 : Addr} {oc9 kV9 dc9 pm9 cd9 ct9 : Value} {od9 an9 : Option Addr} {sl9 : Array (Option Value)}
    {f10 : Addr} {oc10 kV10 dc10 pm10 cd10 ct10 : Value} {od10 an10 : Option Addr} {sl10 : Array (Option Value)}
    {f11 : Addr} {oc11 kV11 dc11 pm11 cd11 ct11 : Value} {od11 an11 : Option Addr} {sl11 : Array (Option Value)}
    {f12 : Addr} {oc12 kV12 dc12 pm12 cd12 ct12 : Value} {od12 an12 : Option Addr} {sl12 : Array (Option Value)}
    {f13 : Addr} {oc13 kV13 dc13 pm13 cd13 ct13 : Value} {od13 an13 : Option Addr} {sl13 : Array (Option Value)}
    {f14 : Addr} {oc14 kV14 dc14 pm14 cd14 ct14 : Value} {od14 an14 : Option Addr} {sl14 : Array (Option Value)}
    {f15 : Addr} {oc15 kV15 dc15 pm15 cd15 ct15 : Value} {od15 an15 : Option Addr} {sl15 : Array (Option Value)}
    {f16 : Addr} {oc16 kV16 dc16 pm16 cd16 ct16 : Value} {od16 an16 : Option Addr} {sl16 : Array (Option Value)}
    {f17 : Addr} {oc17 kV17 dc17 pm17 cd17 ct17 : Value} {od17 an17 : Option Addr} {sl17 : Array (Option Value)}
    {f18 : Addr} {oc18 kV18 dc18 pm18 cd18 ct18 : Value} {od18 an18 : Option Addr} {sl18 : Array (Option Value)}
    {f19 : Addr} {oc19 kV19 dc19 pm19 cd19 ct19 : Value} {od19 an19 : Option Addr} {sl19 : Array (Option Value)}
    {f20 : Addr} {oc20 kV20 dc20 pm20 cd20 ct20 : Value} {od20 an20 : Option Addr} {sl20 : Array (Option Value)}
    {f21 : Addr} {oc21 kV21 dc21 pm21 cd21 ct21 : Value} {od21 an21 : Option Addr} {sl21 : Array (Option Value)}
    {f22 : Addr} {oc22 kV22 dc22 pm22 cd22 ct22 : Value} {od22 an22 : Option Addr} {sl22 : Array (Option Value)}
    {f23 : Addr} {oc23 kV23 dc23 pm23 cd23 ct23 : Value} {od23 an23 : Option Addr} {sl23 : Array (Option Value)}
    {f24 : Addr} {oc24 kV24 dc24 pm24 cd24 ct24 : Value} {od24 an24 : Option Addr} {sl24 : Array (Option Value)}
    {f25 : Addr} {oc25 kV25 dc25 pm25 cd25 ct25 : Value} {od25 an25 : Option Addr} {sl25 : Array (Option Value)}
    {f26 : Addr} {oc26 kV26 dc26 pm26 cd26 ct26 : Value} {od26 an26 : Option Addr} {sl26 : Array (Option Value)}
    {f27 : Addr} {oc27 kV27 dc27 pm27 cd27 ct27 : Value} {od27 an27 : Option Addr} {sl27 : Array (Option Value)}
    {f28 : Addr} {oc28 kV28 dc28 pm28 cd28 ct28 : Value} {od28 an28 : Option Addr} {sl28 : Array (Option Value)}
    {C fN N : Addr} {nm qq : Str} {bs bm sub : List Value} {sn : List Str} {ab : Bool} {col : Option Bool} {dd : Option Addr} {k0x k1x k2x k3x k5x : Option Value}
    {ocN kVN dcN pmN cdN ctN : Value} {odN anN : Option Addr} {slN : Array (Option Value)} {tD : Tok}
    (a0 : PySem.W.nsIn K mainGlobals "_law_take" = some (some (.ref f0))) (l0 : K.lookup f0 = some ⟨oc0, od0, .func (PySem.W.fnOf "_law_take" "_law_take" (defArgs sTake) (defBody sTake) (defScope sTake) .none kV0 dc0 pm0 an0 cd0 ct0), sl0⟩) (c0 : PySem.W.codeIn K cd0 "_law_take" = true) (k0 : PySem.W.keepIn K (.ref f0) = true)
    (a1 : PySem.W.nsIn K mainGlobals "_law_some" = some (some (.ref f1))) (l1 : K.lookup f1 = some ⟨oc1, od1, .func (PySem.W.fnOf "_law_some" "_law_some" (defArgs s_law_some) (defBody s_law_some) (defScope s_law_some) .none kV1 dc1 pm1 an1 cd1 ct1), sl1⟩) (c1 : PySem.W.codeIn K cd1 "_law_some" = true) (k1 : PySem.W.keepIn K (.ref f1) = true)
    (a2 : PySem.W.nsIn K mainGlobals "_law_mixed" = some (some (.ref f2))) (l2 : K.lookup f2 = some ⟨oc2, od2, .func (PySem.W.fnOf "_law_mixed" "_law_mixed" (defArgs s_law_mixed) (defBody s_law_mixed) (defScope s_law_mixed) .none kV2 dc2 pm2 an2 cd2 ct2), sl2⟩) (c2 : PySem.W.codeIn K cd2 "_law_mixed" = true) (k2 : PySem.W.keepIn K (.ref f2) = true)
    (a3 : PySem.W.nsIn K mainGlobals "_law_alike" = some (some (.ref f3))) (l3 : K.lookup f3 = some ⟨oc3, od3, .func (PySem.W.fnOf "_law_alike" "_law_alike" (defArgs s_law_alike) (defBody s_law_alike) (defScope s_law_alike) .none kV3 dc3 pm3 an3 cd3 ct3), sl3⟩) (c3 : PySem.W.codeIn K cd3 "_law_alike" = true) (k3 : PySem.W.keepIn K (.ref f3) = true)
    (a4 : PySem.W.nsIn K mainGlobals "_law_check" = some (some (.ref f4))) (l4 : K.lookup f4 = some ⟨oc4, od4, .func (PySem.W.fnOf "_law_check" "_law_check" (defArgs s_law_check) (defBody s_law_check) (defScope s_law_check) .none kV4 dc4 pm4 an4 cd4 ct4), sl4⟩) (c4 : PySem.W.codeIn K cd4 "_law_check" = true) (k4 : PySem.W.keepIn K (.ref f4) = true)
    (a5 : PySem.W.nsIn K mainGlobals "_law_schema" = some (some (.ref f5))) (l5 : K.lookup f5 = some ⟨oc5, od5, .func (PySem.W.fnOf "_law_schema" "_law_schema" (defArgs s_law_schema) (defBody s_law_schema) (defScope s_law_schema) .none kV5 dc5 pm5 an5 cd5 ct5), sl5⟩) (c5 : PySem.W.codeIn K cd5 "_law_schema" = true) (k5 : PySem.W.keepIn K (.ref f5) = true)
    (a6 : PySem.W.nsIn K mainGlobals "_law_any_way" = some (some (.ref f6))) (l6 : K.lookup f6 = some ⟨oc6, od6, .func (PySem.W.fnOf "_law_any_way" "_law_any_way" (defArgs s_law_any_way) (defBody s_law_any_way) (defScope s_law_any_way) .none kV6 dc6 pm6 an6 cd6 ct6), sl6⟩) (c6 : PySem.W.codeIn K cd6 "_law_any_way" = true) (k6 : PySem.W.keepIn K (.ref f6) = true)
    (a7 : PySem.W.nsIn K mainGlobals "_law_any_name" = some (some (.ref f7))) (l7 : K.lookup f7 = some ⟨oc7, od7, .func (PySem.W.fnOf "_law_any_name" "_law_any_name" (defArgs s_law_any_name) (defBody s_law_any_name) (defScope s_law_any_name) .none kV7 dc7 pm7 an7 cd7 ct7), sl7⟩) (c7 : PySem.W.codeIn K cd7 "_law_any_name" = true) (k7 : PySem.W.keepIn K (.ref f7) = true)
    (a8 : PySem.W.nsIn K mainGlobals "_law_any_sort" = some (some (.ref f8))) (l8 : K.lookup f8 = some ⟨oc8, od8, .func (PySem.W.fnOf "_law_any_sort" "_law_any_sort" (defArgs s_law_any_sort) (defBody s_law_any_sort) (defScope s_law_any_sort) .none kV8 dc8 pm8 an8 cd8 ct8), sl8⟩) (c8 : PySem.W.codeIn K cd8 "_law_any_sort" = true) (k8 : PySem.W.keepIn K (.ref f8) = true)
    (a9 : PySem.W.nsIn K mainGlobals "_law_odd" = some (some (.ref f9))) (l9 : K.lookup f9 = some ⟨oc9, od9, .func (PySem.W.fnOf "_law_odd" "_law_odd" (defArgs s_law_odd) (defBody s_law_odd) (defScope s_law_odd) .none kV9 dc9 pm9 an9 cd9 ct9), sl9⟩) (c9 : PySem.W.codeIn K cd9 "_law_odd" = true) (k9 : PySem.W.keepIn K (.ref f9) = true)
    (a10 : PySem.W.nsIn K mainGlobals "led" = some (some (.ref f10))) (l10 : K.lookup f10 = some ⟨oc10, od10, .func (PySem.W.fnOf "led" "led" (defArgs sled) (defBody sled) (defScope sled) .none kV10 dc10 pm10 an10 cd10 ct10), sl10⟩) (c10 : PySem.W.codeIn K cd10 "led" = true) (k10 : PySem.W.keepIn K (.ref f10) = true)
    (a11 : PySem.W.nsIn K mainGlobals "_law_due_led" = some (some (.ref f11))) (l11 : K.lookup f11 = some ⟨oc11, od11, .func (PySem.W.fnOf "_law_due_led" "_law_due_led" (defArgs s_law_due_led) (defBody s_law_due_led) (defScope s_law_due_led) .none kV11 dc11 pm11 an11 cd11 ct11), sl11⟩) (c11 : PySem.W.codeIn K cd11 "_law_due_led" = true) (k11 : PySem.W.keepIn K (.ref f11) = true)
    (a12 : PySem.W.nsIn K mainGlobals "_law_is_way_right" = some (some (.ref f12))) (l12 : K.lookup f12 = some ⟨oc12, od12, .func (PySem.W.fnOf "_law_is_way_right" "_law_is_way_right" (defArgs s_law_is_way_right) (defBody s_law_is_way_right) (defScope s_law_is_way_right) .none kV12 dc12 pm12 an12 cd12 ct12), sl12⟩) (c12 : PySem.W.codeIn K cd12 "_law_is_way_right" = true) (k12 : PySem.W.keepIn K (.ref f12) = true)
    (a13 : PySem.W.nsIn K mainGlobals "is_integer" = some (some (.ref f13))) (l13 : K.lookup f13 = some ⟨oc13, od13, .func (PySem.W.fnOf "is_integer" "is_integer" (defArgs sis_integer) (defBody sis_integer) (defScope sis_integer) .none kV13 dc13 pm13 an13 cd13 ct13), sl13⟩) (c13 : PySem.W.codeIn K cd13 "is_integer" = true) (k13 : PySem.W.keepIn K (.ref f13) = true)
    (a14 : PySem.W.nsIn K mainGlobals "_law_is_int" = some (some (.ref f14))) (l14 : K.lookup f14 = some ⟨oc14, od14, .func (PySem.W.fnOf "_law_is_int" "_law_is_int" (defArgs s_law_is_int) (defBody s_law_is_int) (defScope s_law_is_int) .none kV14 dc14 pm14 an14 cd14 ct14), sl14⟩) (c14 : PySem.W.codeIn K cd14 "_law_is_int" = true) (k14 : PySem.W.keepIn K (.ref f14) = true)
    (a15 : PySem.W.nsIn K mainGlobals "fits_sort" = some (some (.ref f15))) (l15 : K.lookup f15 = some ⟨oc15, od15, .func (PySem.W.fnOf "fits_sort" "fits_sort" (defArgs sfits_sort) (defBody sfits_sort) (defScope sfits_sort) .none kV15 dc15 pm15 an15 cd15 ct15), sl15⟩) (c15 : PySem.W.codeIn K cd15 "fits_sort" = true) (k15 : PySem.W.keepIn K (.ref f15) = true)
    (a16 : PySem.W.nsIn K mainGlobals "_law_any_fits" = some (some (.ref f16))) (l16 : K.lookup f16 = some ⟨oc16, od16, .func (PySem.W.fnOf "_law_any_fits" "_law_any_fits" (defArgs s_law_any_fits) (defBody s_law_any_fits) (defScope s_law_any_fits) .none kV16 dc16 pm16 an16 cd16 ct16), sl16⟩) (c16 : PySem.W.codeIn K cd16 "_law_any_fits" = true) (k16 : PySem.W.keepIn K (.ref f16) = true)
    (a17 : PySem.W.nsIn K mainGlobals "_law_sort_fits" = some (some (.ref f17))) (l17 : K.lookup f17 = some ⟨oc17, od17, .func (PySem.W.fnOf "_law_sort_fits" "_law_sort_fits" (defArgs s_law_sort_fits) (defBody s_law_sort_fits) (defScope s_law_sort_fits) .none kV17 dc17 pm17 an17 cd17 ct17), sl17⟩) (c17 : PySem.W.codeIn K cd17 "_law_sort_fits" = true) (k17 : PySem.W.keepIn K (.ref f17) = true)
    (a18 : PySem.W.nsIn K mainGlobals "is_value" = some (some (.ref f18))) (l18 : K.lookup f18 = some ⟨oc18, od18, .func (PySem.W.fnOf "is_value" "is_value" (defArgs sis_value) (defBody sis_value) (defScope sis_value) .none kV18 dc18 pm18 an18 cd18 ct18), sl18⟩) (c18 : PySem.W.codeIn K cd18 "is_value" = true) (k18 : PySem.W.keepIn K (.ref f18) = true)
    (a19 : PySem.W.nsIn K mainGlobals "is_tuple_of" = some (some (.ref f19))) (l19 : K.lookup f19 = some ⟨oc19, od19, .func (PySem.W.fnOf "is_tuple_of" "is_tuple_of" (defArgs sis_tuple_of) (defBody sis_tuple_of) (defScope sis_tuple_of) .none kV19 dc19 pm19 an19 cd19 ct19), sl19⟩) (c19 : PySem.W.codeIn K cd19 "is_tuple_of" = true) (k19 : PySem.W.keepIn K (.ref f19) = true)
    (a20 : PySem.W.nsIn K mainGlobals "_sorts_in" = some (some (.ref f20))) (l20 : K.lookup f20 = some ⟨oc20, od20, .func (PySem.W.fnOf "_sorts_in" "_sorts_in" (defArgs s_sorts_in) (defBody s_sorts_in) (defScope s_sorts_in) .none kV20 dc20 pm20 an20 cd20 ct20), sl20⟩) (c20 : PySem.W.codeIn K cd20 "_sorts_in" = true) (k20 : PySem.W.keepIn K (.ref f20) = true)
    (a21 : PySem.W.nsIn K mainGlobals "is_row" = some (some (.ref f21))) (l21 : K.lookup f21 = some ⟨oc21, od21, .func (PySem.W.fnOf "is_row" "is_row" (defArgs sis_row) (defBody sis_row) (defScope sis_row) .none kV21 dc21 pm21 an21 cd21 ct21), sl21⟩) (c21 : PySem.W.codeIn K cd21 "is_row" = true) (k21 : PySem.W.keepIn K (.ref f21) = true)
    (a22 : PySem.W.nsIn K mainGlobals "fits_row" = some (some (.ref f22))) (l22 : K.lookup f22 = some ⟨oc22, od22, .func (PySem.W.fnOf "fits_row" "fits_row" (defArgs sfits_row) (defBody sfits_row) (defScope sfits_row) .none kV22 dc22 pm22 an22 cd22 ct22), sl22⟩) (c22 : PySem.W.codeIn K cd22 "fits_row" = true) (k22 : PySem.W.keepIn K (.ref f22) = true)
    (a23 : PySem.W.nsIn K mainGlobals "_law_table_of" = some (some (.ref f23))) (l23 : K.lookup f23 = some ⟨oc23, od23, .func (PySem.W.fnOf "_law_table_of" "_law_table_of" (defArgs s_law_table_of) (defBody s_law_table_of) (defScope s_law_table_of) .none kV23 dc23 pm23 an23 cd23 ct23), sl23⟩) (c23 : PySem.W.codeIn K cd23 "_law_table_of" = true) (k23 : PySem.W.keepIn K (.ref f23) = true)
    (a24 : PySem.W.nsIn K mainGlobals "_law_row_fits" = some (some (.ref f24))) (l24 : K.lookup f24 = some ⟨oc24, od24, .func (PySem.W.fnOf "_law_row_fits" "_law_row_fits" (defArgs s_law_row_fits) (defBody s_law_row_fits) (defScope s_law_row_fits) .none kV24 dc24 pm24 an24 cd24 ct24), sl24⟩) (c24 : PySem.W.codeIn K cd24 "_law_row_fits" = true) (k24 : PySem.W.keepIn K (.ref f24) = true)
    (a25 : PySem.W.nsIn K mainGlobals "integer_in" = some (some (.ref f25))) (l25 : K.lookup f25 = some ⟨oc25, od25, .func (PySem.W.fnOf "integer_in" "integer_in" (defArgs sinteger_in) (defBody sinteger_in) (defScope sinteger_in) .none kV25 dc25 pm25 an25 cd25 ct25), sl25⟩) (c25 : PySem.W.codeIn K cd25 "integer_in" = true) (k25 : PySem.W.keepIn K (.ref f25) = true)
    (a26 : PySem.W.nsIn K mainGlobals "_law_integer_in" = some (some (.ref f26))) (l26 : K.lookup f26 = some ⟨oc26, od26, .func (PySem.W.fnOf "_law_integer_in" "_law_integer_in" (defArgs s_law_integer_in) (defBody s_law_integer_in) (defScope s_law_integer_in) .none kV26 dc26 pm26 an26 cd26 ct26), sl26⟩) (c26 : PySem.W.codeIn K cd26 "_law_integer_in" = true) (k26 : PySem.W.keepIn K (.ref f26) = true)
    (a27 : PySem.W.nsIn K mainGlobals "_law_bag" = some (some (.ref f27))) (l27 : K.lookup f27 = some ⟨oc27, od27, .func (PySem.W.fnOf "_law_bag" "_law_bag" (defArgs s_law_bag) (defBody s_law_bag) (defScope s_law_bag) .none kV27 dc27 pm27 an27 cd27 ct27), sl27⟩) (c27 : PySem.W.codeIn K cd27 "_law_bag" = true) (k27 : PySem.W.keepIn K (.ref f27) = true)
    (a28 : PySem.W.nsIn K mainGlobals "law" = some (some (.ref f28))) (l28 : K.lookup f28 = some ⟨oc28, od28, .func (PySem.W.fnOf "law" "law" (defArgs slaw) (defBody slaw) (defScope slaw) .none kV28 dc28 pm28 an28 cd28 ct28), sl28⟩) (c28 : PySem.W.codeIn K cd28 "law" = true) (k28 : PySem.W.keepIn K (.ref f28) = true)
    (eC : PySem.W.nsIn K mainGlobals "NoCommand" = some (some (.ref C)))
    (eL : K.lookup C = some (excClassObj nm qq C N bs bm true sn sub ab col dd k0x k1x k2x k3x k5x "ValueError.__new__"))
    (eS : PySem.W.findIn K (.ref C) "__setattr__" = some (some (.builtin "object.__setattr__")))
    (eB : PySem.W.subIn K (.ref C) (.type "BaseException") = some true)
    (eT : PySem.W.typeIn K (.ref C) = some (.type "type"))
    (eK : PySem.W.keepIn K (.ref C) = true)
    (eI : PySem.W.findIn K (.ref C) "__init__" = some (some (.ref fN)))
    (eF : PySem.W.typeIn K (.ref fN) = some (.type "function"))
    (eN : K.lookup fN = some ⟨ocN, odN, .func (PySem.W.fnOf "__init__" "NoCommand.__init__" (defArgs sNoInit) (defBody sNoInit) (defScope sNoInit) .none kVN dcN pmN anN cdN ctN), slN⟩)
    (eD : PySem.W.codeIn K cdN "NoCommand.__init__" = true)
    (eP : PySem.W.keepIn K (.ref fN) = true)
    (eg : PySem.W.findIn K (.ref C) "__getattribute__" = some (some (.builtin "BaseException.__getattribute__")))
    (ek : PySem.W.findIn K (.ref C) "__getattr__" = some none)
    (ed : PySem.W.hasDictIn K C = true)
    (ea : PySem.W.findIn K (.ref C) "__class__" = some (some (.builtin "object.__class__")))
    (en : PySem.W.specialIn K (.builtin "object.__class__") "__get__" = some (some (.builtin "getset_descriptor.__get__")))
    (et : PySem.W.takesIn K (.builtin "object.__class__") = some true)
    (em : PySem.W.mroIn K C (.type "object") = some true)
    (sint : PySem.W.subIn K (.ref C) (.type "int") = some false)
    (sbool : PySem.W.subIn K (.ref C) (.type "bool") = some false)
    (sstr : PySem.W.subIn K (.ref C) (.type "str") = some false)
    (slist : PySem.W.subIn K (.ref C) (.type "list") = some false)
    (stuple : PySem.W.subIn K (.ref C) (.type "tuple") = some false)
    (sdict : PySem.W.subIn K (.ref C) (.type "dict") = some false)
    (eR : PySem.HandSPX.refsVE bm = true)
    (cD : PySem.W.nsIn K mainGlobals "DIGITS" = some (some (.str "0123456789" tD)))
    (z0 : PySem.W.nsIn K mainGlobals "tuple" = some none) (z1 : PySem.W.nsIn K mainGlobals "dict" = some none) (z2 : PySem.W.nsIn K mainGlobals "sorted" = some none) (z3 : PySem.W.nsIn K mainGlobals "list" = some none) (z4 : PySem.W.nsIn K mainGlobals "repr" = some none) (z5 : PySem.W.nsIn K mainGlobals "len" = some none) (z6 : PySem.W.nsIn K mainGlobals "int" = some none) (z7 : PySem.W.nsIn K mainGlobals "range" = some none) (z8 : PySem.W.nsIn K mainGlobals "enumerate" = some none) (z9 : PySem.W.nsIn K mainGlobals "abs" = some none) (z10 : PySem.W.nsIn K mainGlobals "isinstance" = some none) (z11 : PySem.W.nsIn K mainGlobals "bool" = some none) (z12 : PySem.W.nsIn K mainGlobals "all" = some none) (z13 : PySem.W.nsIn K mainGlobals "zip" = some none) (z14 : PySem.W.nsIn K mainGlobals "str" = some none) (z15 : PySem.W.nsIn K mainGlobals "sum" = some none) :
    ∃ fd : FuncData, (∀ (s : Shared) (u : Value), BindsTo s fd ⟨[u], []⟩ [("script", u)]) ∧
        ∀ base : Heap, K.In base → base.Ns mainGlobals mg → GFn l.prog w K mg base CX0 6 fa fd ["script"] (spLaw K) := by
  have e := hfa.symm.trans (PySem.W.mg_of X G a28)
  cases e
  have Z : Nones mg := ⟨PySem.W.mg_none_of X G z0, PySem.W.mg_none_of X G z1, PySem.W.mg_none_of X G z2, PySem.W.mg_none_of X G z3, PySem.W.mg_none_of X G z4, PySem.W.mg_none_of X G z5, PySem.W.mg_none_of X G z6, PySem.W.mg_none_of X G z7, PySem.W.mg_none_of X G z8, PySem.W.mg_none_of X G z9, PySem.W.mg_none_of X G z10, PySem.W.mg_none_of X G z11, PySem.W.mg_none_of X G z12, PySem.W.mg_none_of X G z13, PySem.W.mg_none_of X G z14, PySem.W.mg_none_of X G z15, tD, PySem.W.mg_of X G cD⟩
  have FN := fun_mk (st := sNoInit) eN eD eP
  have ZN : ∀ base : Heap, Err l.prog w K mg base "NoCommand" C fN _ := fun base => ⟨⟨⟨nm, qq, N, bs, bm, sn, sub, ab, col, dd, k0x, k1x, k2x, k3x, k5x, eL, eR⟩, eS, eB, eT, eK⟩, eI, eF, ok_init FN, FN.binds (ps := ["self"]) fun _ _ _ _ _ _ us hlz0 => match us, hlz0 with | [_], _ => rfl, PySem.W.mg_of X G eC,
    ⟨⟨eg, ek, eB, ed, ea, en, et, em⟩, kit_no (by decide +kernel) sint, kit_no (by decide +kernel) sbool, kit_no (by decide +kernel) sstr, kit_no (by decide +kernel) slist, kit_no (by decide +kernel) stuple, kit_no (by decide +kernel) sdict⟩⟩
  have F0 := fun_mk (st := sTake) l0 c0 k0
  have H0 : Has K mg "_law_take" sTake f0 _ ["bag", "many"] := ⟨F0, PySem.W.mg_of X G a0, F0.binds (ps := ["bag", "many"]) fun _ _ _ _ _ _ us hlz0 => match us, hlz0 with | [_, _], _ => rfl⟩
  have F1 := fun_mk (st := s_law_some) l1 c1 k1
  have H1 : Has K mg "_law_some" s_law_some f1 _ ["bag", "things"] := ⟨F1, PySem.W.mg_of X G a1, F1.binds (ps := ["bag", "things"]) fun _ _ _ _ _ _ us hlz0 => match us, hlz0 with | [_, _], _ => rfl⟩
  have F2 := fun_mk (st := s_law_mixed) l2 c2 k2
  have H2 : Has K mg "_law_mixed" s_law_mixed f2 _ ["bag", "things"] := ⟨F2, PySem.W.mg_of X G a2, F2.binds (ps := ["bag", "things"]) fun _ _ _ _ _ _ us hlz0 => match us, hlz0 with | [_, _], _ => rfl⟩
  have F3 := fun_mk (st := s_law_alike) l3 c3 k3
  have H3 : Has K mg "_law_alike" s_law_alike f3 _ ["found", "due"] := ⟨F3, PySem.W.mg_of X G a3, F3.binds (ps := ["found", "due"]) fun _ _ _ _ _ _ us hlz0 => match us, hlz0 with | [_, _], _ => rfl⟩
  have F4 := fun_mk (st := s_law_check) l4 c4 k4
  have H4 : Has K mg "_law_check" s_law_check f4 _ ["bag", "columns"] := ⟨F4, PySem.W.mg_of X G a4, F4.binds (ps := ["bag", "columns"]) fun _ _ _ _ _ _ us hlz0 => match us, hlz0 with | [_, _], _ => rfl⟩
  have F5 := fun_mk (st := s_law_schema) l5 c5 k5
  have H5 : Has K mg "_law_schema" s_law_schema f5 _ ["bag", "most"] := ⟨F5, PySem.W.mg_of X G a5, F5.binds (ps := ["bag", "most"]) fun _ _ _ _ _ _ us hlz0 => match us, hlz0 with | [_, _], _ => rfl⟩
  have F6 := fun_mk (st := s_law_any_way) l6 c6 k6
  have H6 : Has K mg "_law_any_way" s_law_any_way f6 _ ["bag"] := ⟨F6, PySem.W.mg_of X G a6, F6.binds (ps := ["bag"]) fun _ _ _ _ _ _ us hlz0 => match us, hlz0 with | [_], _ => rfl⟩
  have F7 := fun_mk (st := s_law_any_name) l7 c7 k7
  have H7 : Has K mg "_law_any_name" s_law_any_name f7 _ ["bag"] := ⟨F7, PySem.W.mg_of X G a7, F7.binds (ps := ["bag"]) fun _ _ _ _ _ _ us hlz0 => match us, hlz0 with | [_], _ => rfl⟩
  have F8 := fun_mk (st := s_law_any_sort) l8 c8 k8
  have H8 : Has K mg "_law_any_sort" s_law_any_sort f8 _ ["bag"] := ⟨F8, PySem.W.mg_of X G a8, F8.binds (ps := ["bag"]) fun _ _ _ _ _ _ us hlz0 => match us, hlz0 with | [_], _ => rfl⟩
  have F9 := fun_mk (st := s_law_odd) l9 c9 k9
  have H9 : Has K mg "_law_odd" s_law_odd f9 _ ["bag"] := ⟨F9, PySem.W.mg_of X G a9, F9.binds (ps := ["bag"]) fun _ _ _ _ _ _ us hlz0 => match us, hlz0 with | [_], _ => rfl⟩
  have F10 := fun_mk (st := sled) l10 c10 k10
  have H10 : Has K mg "led" sled f10 _ ["way", "x"] := ⟨F10, PySem.W.mg_of X G a10, F10.binds (ps := ["way", "x"]) fun _ _ _ _ _ _ us hlz0 => match us, hlz0 with | [_, _], _ => rfl⟩
  have F11 := fun_mk (st := s_law_due_led) l11 c11 k11
  have H11 : Has K mg "_law_due_led" s_law_due_led f11 _ ["way", "x"] := ⟨F11, PySem.W.mg_of X G a11, F11.binds (ps := ["way", "x"]) fun _ _ _ _ _ _ us hlz0 => match us, hlz0 with | [_, _], _ => rfl⟩
  have F12 := fun_mk (st := s_law_is_way_right) l12 c12 k12
  have H12 : Has K mg "_law_is_way_right" s_law_is_way_right f12 _ ["bag", "way"] := ⟨F12, PySem.W.mg_of X G a12, F12.binds (ps := ["bag", "way"]) fun _ _ _ _ _ _ us hlz0 => match us, hlz0 with | [_, _], _ => rfl⟩
  have F13 := fun_mk (st := sis_integer) l13 c13 k13
  have H13 : Has K mg "is_integer" sis_integer f13 _ ["thing"] := ⟨F13, PySem.W.mg_of X G a13, F13.binds (ps := ["thing"]) fun _ _ _ _ _ _ us hlz0 => match us, hlz0 with | [_], _ => rfl⟩
  have F14 := fun_mk (st := s_law_is_int) l14 c14 k14
  have H14 : Has K mg "_law_is_int" s_law_is_int f14 _ ["thing"] := ⟨F14, PySem.W.mg_of X G a14, F14.binds (ps := ["thing"]) fun _ _ _ _ _ _ us hlz0 => match us, hlz0 with | [_], _ => rfl⟩
  have F15 := fun_mk (st := sfits_sort) l15 c15 k15
  have H15 : Has K mg "fits_sort" sfits_sort f15 _ ["sort", "thing"] := ⟨F15, PySem.W.mg_of X G a15, F15.binds (ps := ["sort", "thing"]) fun _ _ _ _ _ _ us hlz0 => match us, hlz0 with | [_, _], _ => rfl⟩
  have F16 := fun_mk (st := s_law_any_fits) l16 c16 k16
  have H16 : Has K mg "_law_any_fits" s_law_any_fits f16 _ ["sort", "thing"] := ⟨F16, PySem.W.mg_of X G a16, F16.binds (ps := ["sort", "thing"]) fun _ _ _ _ _ _ us hlz0 => match us, hlz0 with | [_, _], _ => rfl⟩
  have F17 := fun_mk (st := s_law_sort_fits) l17 c17 k17
  have H17 : Has K mg "_law_sort_fits" s_law_sort_fits f17 _ ["sort", "thing"] := ⟨F17, PySem.W.mg_of X G a17, F17.binds (ps := ["sort", "thing"]) fun _ _ _ _ _ _ us hlz0 => match us, hlz0 with | [_, _], _ => rfl⟩
  have F18 := fun_mk (st := sis_value) l18 c18 k18
  have H18 : Has K mg "is_value" sis_value f18 _ ["thing"] := ⟨F18, PySem.W.mg_of X G a18, F18.binds (ps := ["thing"]) fun _ _ _ _ _ _ us hlz0 => match us, hlz0 with | [_], _ => rfl⟩
  have F19 := fun_mk (st := sis_tuple_of) l19 c19 k19
  have H19 : Has K mg "is_tuple_of" sis_tuple_of f19 _ ["thing", "many"] := ⟨F19, PySem.W.mg_of X G a19, F19.binds (ps := ["thing", "many"]) fun _ _ _ _ _ _ us hlz0 => match us, hlz0 with | [_, _], _ => rfl⟩
  have F20 := fun_mk (st := s_sorts_in) l20 c20 k20
  have H20 : Has K mg "_sorts_in" s_sorts_in f20 _ ["schema", "table"] := ⟨F20, PySem.W.mg_of X G a20, F20.binds (ps := ["schema", "table"]) fun _ _ _ _ _ _ us hlz0 => match us, hlz0 with | [_, _], _ => rfl⟩
  have F21 := fun_mk (st := sis_row) l21 c21 k21
  have H21 : Has K mg "is_row" sis_row f21 _ ["schema", "table", "thing"] := ⟨F21, PySem.W.mg_of X G a21, F21.binds (ps := ["schema", "table", "thing"]) fun _ _ _ _ _ _ us hlz0 => match us, hlz0 with | [_, _, _], _ => rfl⟩
  have F22 := fun_mk (st := sfits_row) l22 c22 k22
  have H22 : Has K mg "fits_row" sfits_row f22 _ ["schema", "table", "row"] := ⟨F22, PySem.W.mg_of X G a22, F22.binds (ps := ["schema", "table", "row"]) fun _ _ _ _ _ _ us hlz0 => match us, hlz0 with | [_, _, _], _ => rfl⟩
  have F23 := fun_mk (st := s_law_table_of) l23 c23 k23
  have H23 : Has K mg "_law_table_of" s_law_table_of f23 _ ["schema", "name"] := ⟨F23, PySem.W.mg_of X G a23, F23.binds (ps := ["schema", "name"]) fun _ _ _ _ _ _ us hlz0 => match us, hlz0 with | [_, _], _ => rfl⟩
  have F24 := fun_mk (st := s_law_row_fits) l24 c24 k24
  have H24 : Has K mg "_law_row_fits" s_law_row_fits f24 _ ["schema", "table", "row"] := ⟨F24, PySem.W.mg_of X G a24, F24.binds (ps := ["schema", "table", "row"]) fun _ _ _ _ _ _ us hlz0 => match us, hlz0 with | [_, _, _], _ => rfl⟩
  have F25 := fun_mk (st := sinteger_in) l25 c25 k25
  have H25 : Has K mg "integer_in" sinteger_in f25 _ ["word"] := ⟨F25, PySem.W.mg_of X G a25, F25.binds (ps := ["word"]) fun _ _ _ _ _ _ us hlz0 => match us, hlz0 with | [_], _ => rfl⟩
  have F26 := fun_mk (st := s_law_integer_in) l26 c26 k26
  have H26 : Has K mg "_law_integer_in" s_law_integer_in f26 _ ["word"] := ⟨F26, PySem.W.mg_of X G a26, F26.binds (ps := ["word"]) fun _ _ _ _ _ _ us hlz0 => match us, hlz0 with | [_], _ => rfl⟩
  have F27 := fun_mk (st := s_law_bag) l27 c27 k27
  have H27 : Has K mg "_law_bag" s_law_bag f27 _ ["script"] := ⟨F27, PySem.W.mg_of X G a27, F27.binds (ps := ["script"]) fun _ _ _ _ _ _ us hlz0 => match us, hlz0 with | [_], _ => rfl⟩
  exact ⟨PySem.W.fnOf "law" "law" (defArgs slaw) (defBody slaw) (defScope slaw) .none kV28 dc28 pm28 an28 cd28 ct28, fun s v => .of_eq rfl, fun base _ _ =>
    all_ok Z (ZN base) H0 H1 H2 H3 H4 H5 H6 H7 H8 H9 H10 H11 H12 H13 H14 H15 H16 H17 H18 H19 H20 H21 H22 H23 H24 H25 H26 H27 (fun_mk (st := slaw) l28 c28 k28)⟩
end ZZ

set_option maxHeartbeats 0
open PySem PySem.W PyProof.Rows in
theorem PySem.Challenge.cw_everyversion_k01_ways_led_and_what_fits_holds : PySem.Challenge.rw_everyversion_k01_ways_led_and_what_fits.Holds := by
  w_on; o_law; k_head; (case hw => w_witness2)
  k_fill
  refine GG.walkG (l := PySem.Challenge.rw_everyversion_k01_ways_led_and_what_fits) (n := 63) (k := 6) (x := "script") (sp := LL.spLaw) rfl (by decide) rfl ⟨⟨rfl, by decide, by decide⟩, rfl⟩ (fun w h Y => kIn_of Y) ?F ?hsp
  case F =>
    intro w mg fa h KX G hmgz
    refine' ZZ.all_mk KX G hmgz ?a0 ?l0 ?c0 ?k0 ?a1 ?l1 ?c1 ?k1 ?a2 ?l2 ?c2 ?k2 ?a3 ?l3 ?c3 ?k3 ?a4 ?l4 ?c4 ?k4 ?a5 ?l5 ?c5 ?k5 ?a6 ?l6 ?c6 ?k6 ?a7 ?l7 ?c7 ?k7 ?a8 ?l8 ?c8 ?k8 ?a9 ?l9 ?c9 ?k9 ?a10 ?l10 ?c10 ?k10 ?a11 ?l11 ?c11 ?k11 ?a12 ?l12 ?c12 ?k12 ?a13 ?l13 ?c13 ?k13 ?a14 ?l14 ?c14 ?k14 ?a15 ?l15 ?c15 ?k15 ?a16 ?l16 ?c16 ?k16 ?a17 ?l17 ?c17 ?k17 ?a18 ?l18 ?c18 ?k18 ?a19 ?l19 ?c19 ?k19 ?a20 ?l20 ?c20 ?k20 ?a21 ?l21 ?c21 ?k21 ?a22 ?l22 ?c22 ?k22 ?a23 ?l23 ?c23 ?k23 ?a24 ?l24 ?c24 ?k24 ?a25 ?l25 ?c25 ?k25 ?a26 ?l26 ?c26 ?k26 ?a27 ?l27 ?c27 ?k27 ?a28 ?l28 ?c28 ?k28 ?eC ?eL ?eS ?eB ?eT ?eK ?eI ?eF ?eN ?eD ?eP ?eg ?ek ?ed ?ea ?en ?et ?em ?sint ?sbool ?sstr ?slist ?stuple ?sdict ?eR ?cD ?z0 ?z1 ?z2 ?z3 ?z4 ?z5 ?z6 ?z7 ?z8 ?z9 ?z10 ?z11 ?z12 ?z13 ?z14 ?z15
    (case a0 => k_is)
    (case l0 => k_is)
    (case c0 => k_is)
    (case k0 => k_is)
    (case a1 => k_is)
    (case l1 => k_is)
    (case c1 => k_is)
    (case k1 => k_is)
    (case a2 => k_is)
    (case l2 => k_is)
    (case c2 => k_is)
    (case k2 => k_is)
    (case a3 => k_is)
    (case l3 => k_is)
    (case c3 => k_is)
    (case k3 => k_is)
    (case a4 => k_is)
    (case l4 => k_is)
    (case c4 => k_is)
    (case k4 => k_is)
    (case a5 => k_is)
    (case l5 => k_is)
    (case c5 => k_is)
    (case k5 => k_is)
    (case a6 => k_is)
    (case l6 => k_is)
    (case c6 => k_is)
    (case k6 => k_is)
    (case a7 => k_is)
    (case l7 => k_is)
    (case c7 => k_is)
    (case k7 => k_is)
    (case a8 => k_is)
    (case l8 => k_is)
    (case c8 => k_is)
    (case k8 => k_is)
    (case a9 => k_is)
    (case l9 => k_is)
    (case c9 => k_is)
    (case k9 => k_is)
    (case a10 => k_is)
    (case l10 => k_is)
    (case c10 => k_is)
    (case k10 => k_is)
    (case a11 => k_is)
    (case l11 => k_is)
    (case c11 => k_is)
    (case k11 => k_is)
    (case a12 => k_is)
    (case l12 => k_is)
    (case c12 => k_is)
    (case k12 => k_is)
    (case a13 => k_is)
    (case l13 => k_is)
    (case c13 => k_is)
    (case k13 => k_is)
    (case a14 => k_is)
    (case l14 => k_is)
    (case c14 => k_is)
    (case k14 => k_is)
    (case a15 => k_is)
    (case l15 => k_is)
    (case c15 => k_is)
    (case k15 => k_is)
    (case a16 => k_is)
    (case l16 => k_is)
    (case c16 => k_is)
    (case k16 => k_is)
    (case a17 => k_is)
    (case l17 => k_is)
    (case c17 => k_is)
    (case k17 => k_is)
    (case a18 => k_is)
    (case l18 => k_is)
    (case c18 => k_is)
    (case k18 => k_is)
    (case a19 => k_is)
    (case l19 => k_is)
    (case c19 => k_is)
    (case k19 => k_is)
    (case a20 => k_is)
    (case l20 => k_is)
    (case c20 => k_is)
    (case k20 => k_is)
    (case a21 => k_is)
    (case l21 => k_is)
    (case c21 => k_is)
    (case k21 => k_is)
    (case a22 => k_is)
    (case l22 => k_is)
    (case c22 => k_is)
    (case k22 => k_is)
    (case a23 => k_is)
    (case l23 => k_is)
    (case c23 => k_is)
    (case k23 => k_is)
    (case a24 => k_is)
    (case l24 => k_is)
    (case c24 => k_is)
    (case k24 => k_is)
    (case a25 => k_is)
    (case l25 => k_is)
    (case c25 => k_is)
    (case k25 => k_is)
    (case a26 => k_is)
    (case l26 => k_is)
    (case c26 => k_is)
    (case k26 => k_is)
    (case a27 => k_is)
    (case l27 => k_is)
    (case c27 => k_is)
    (case k27 => k_is)
    (case a28 => k_is)
    (case l28 => k_is)
    (case c28 => k_is)
    (case k28 => k_is)
    (case eC => k_is)
    (case eL => k_is)
    (case eS => k_is)
    (case eB => k_is)
    (case eT => k_is)
    (case eK => k_is)
    (case eI => k_is)
    (case eF => k_is)
    (case eN => k_is)
    (case eD => k_is)
    (case eP => k_is)
    (case eg => k_is)
    (case ek => k_is)
    (case ed => k_is)
    (case ea => k_is)
    (case en => k_is)
    (case et => k_is)
    (case em => k_is)
    (case sint => k_is)
    (case sbool => k_is)
    (case sstr => k_is)
    (case slist => k_is)
    (case stuple => k_is)
    (case sdict => k_is)
    (case eR => first | rfl | decide +kernel)
    (case cD => k_is)
    (case z0 => k_is)
    (case z1 => k_is)
    (case z2 => k_is)
    (case z3 => k_is)
    (case z4 => k_is)
    (case z5 => k_is)
    (case z6 => k_is)
    (case z7 => k_is)
    (case z8 => k_is)
    (case z9 => k_is)
    (case z10 => k_is)
    (case z11 => k_is)
    (case z12 => k_is)
    (case z13 => k_is)
    (case z14 => k_is)
    (case z15 => k_is)
  case hsp =>
    intro K H a ns hlz0 hO hS
    refine ⟨a, ns, rfl, hS, hlz0, ?_, fun _ => rfl⟩
    intro c ps e
    rcases hO c with h | ⟨o, xs, h⟩ <;> (rw [h] at e; cases e)

