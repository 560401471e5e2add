import PyProof.Rows.All
import Wide.All
import OpenK.AllK
import Wide.FinOn
import HandS.ForMost
import HandS.Exc
import HandS.TryOnly
import HandS.ExcOwn
import HandS.WordsExc
import HandS.IsInst
import HandS.Wide
import HandS.Defaults
import HandS.MakeKwOnly
import HandS.OwnEq
import HandS.CallSlots
import HandS.NamedTupSort
import PyProof.ReprRoads
import PyProof.ReprReads
import PyProof.NeKinds
import KE.KExcStr
import PyProof.ReprLen
import HandS.TupSets
import HandS.Strs
import HandS.Style
import HandS.TupAny
import HandS.Text
import HandS.Walk
import HandS.TryMany
import HandS.SetFor
import HandS.Conv
import HandS.Evl
import HandS.SortKw
import KE.DataMinMax
import HandS.Deep
import HandS.Zip
import HandS.TupMul
import PySem.Challenge.RW_tableheld_k09_conditions_of_any_value
set_option Elab.async false
set_option linter.all false
set_option maxRecDepth 100000
set_option maxHeartbeats 4000000
/-! # Xby: what the laws of this program want over the hand layer: repr of data, defs under no repr, == and != of an own class -/
namespace Xby
open PySem PySem.Spec PyProof.Rows L2

/-! ## defs that run under no repr -/
structure FnG (P : Program) (w : World) (K : PySem.W.Frag) (mg : Str → Option Value) (base : Heap) (CX : CXT) (k : Nat) (f : Addr) (fd : FuncData) (ps : List Str) (sp : Sp) : Prop where
  len : ∀ vs H Q E, sp vs H Q E → vs.length = ps.length
  run : ∀ (A : Around) (outer : List Env) (s : Shared) (H : Hp) (args : Args) (us : List Value) (vs : List V) (Q : VK) (E : XK),
    A.guards = some [] → Room k A → Env0 P w K mg base A outer s H → BindsTo s fd args (ps.zip us) → Vals vs us → sp vs H Q E →
      codeAny (model P w) A (.call (.ref f) args) (CR CX outer P w H s Q E) s
section
variable {P : Program} {w : World} {K : PySem.W.Frag} {mg : Str → Option Value} {base : Heap}
/-- a def by its body, under no repr -/
theorem okG {x qual : Str} {st : Stmt} {f : Addr} {fd : FuncData} {N ps : List Str} {k : Nat} {sp : Sp}
    (F : Fun K x qual st f fd) (S : FnScope N ps (defScope st)) (len : ∀ vs H Q E, sp vs H Q E → vs.length = ps.length)
    (body : ∀ (cdv : Value) (A : Around) (outer : List Env) (s : Shared) (H : Hp) (vs : List V) (Q : VK) (E : XK),
      A.guards = some [] → Room k (A.deeper (envOfC qual (defScope st) s.heap.objs.size f cdv)) → sp vs H Q E →
        ∃ t, PSs (cxOf CX0 P w K mg base N qual (defScope st) f cdv A outer s H E).nox (defBody st) t ∧
          t { nx := fun _ H' => Q .non H', rt := Q } (start N vs) H) :
    FnG P w K mg base CX0 (k + 1) f fd ps sp := by
  constructor
  · exact len
  intro A outer s H args us vs Q E hg room e0 bnd rv hsp
  obtain ⟨oc, od, kV, doc, pm, an, cdv, ct, osl, rfl, lk, code⟩ := F.ex
  have inK : K.In s.heap := e0.mod.kin.keeps fun b o e => (e0.bs b o e).1
  have lim : s.heap.NoLimit := e0.mod.nolimit.keeps fun b o e => (e0.bs b o e).1
  have kinds : ∀ y ∈ ps.zip us, (defScope st).names.lookup y.1 = some .local ∨
      ((defScope st).names.lookup y.1 = some .cell ∧ ((cellsFrom (s.heap.objs.size + 1) (defScope st).names []).lookup y.1).isSome = true) := by
    rintro ⟨n, v⟩ hy
    rcases S.par n (List.of_mem_zip hy).1 with q | q
    · exact Or.inl q
    · exact Or.inr ⟨q, PySem.W.cellsFrom_some _ _ _ (Or.inl q)⟩
  refine codeAny_call_function room.depth (inK _ _ lk) rfl S.co S.gen rfl (PySem.W.codeRec_of inK code) (bnd _ _ _ _ ?_)
  refine wpAny_newFunctionEnv_cells S.kind kinds fun env he s1 ic => ?_
  subst he
  refine ⟨lim.keeps ic.toInCall.keep, codeAny_func ?_⟩
  obtain ⟨t, ht, q0⟩ := body cdv A outer s H vs Q E hg (room.deeper _) hsp
  have I0 := inv_start (CX := CX0) (E := E) (cd := cdv) S room.hd e0 (len _ _ _ _ hsp) rv ic
  refine wpAny_mono (ht.nox.run [] s1 (start N vs) H _ I0 q0) (fun fl s' end_ => ?_) fun e s' z => z
  cases fl with
  | next =>
    obtain ⟨σ', H', J, q⟩ := end_
    exact ⟨V.non, H', J.os, J.bare, J.base, J.hok, rfl, q⟩
  | ret u =>
    obtain ⟨v, σ', H', J, rr, q⟩ := end_
    exact ⟨v, H', J.os, J.bare, J.base, J.hok, rr, q⟩
  | brk =>
    obtain ⟨_, _, _, q⟩ := end_
    exact (show False from q).elim
  | cont =>
    obtain ⟨_, _, _, q⟩ := end_
    exact (show False from q).elim
end
section
variable {X : Cx} {k : Nat} {f : Addr} {fd : FuncData} {ps : List Str} {sp : Sp} {x : Str} {p pos : Pos} {e : Expr} {es : List Expr} {t : TA}
/-- such a def called by its name -/
theorem pe_callG (F : FnG X.prog X.w X.K X.mg X.base CX0 k f fd ps sp) (hgd : X.A.guards = some []) (hr : Room k X.A) (hg : Gl X x) (hm : X.mg x = some (.ref f)) (hk : PySem.W.keepIn X.K (.ref f) = true)
    (hb : Binds X.K fd ps []) (ha : PA X (e :: es) t) (hdb : (x == ("__debug__" : Str)) = false := by decide)
    (he : starEach (e :: es) X.env = (false, eval e X.env) :: starEach es X.env := by rfl) (hpl : (backTo pos (starEach es X.env)).any (·.1) = false := by rfl) :
    PE X (.Call (.Name x p) (e :: es) [] pos) (tCall sp [] E0 t) := by
  constructor
  intro pins s σ H Q I h
  refine wpAny_Call_Name_kw (ld_glob I hg hm ?_ hdb)
  refine PySem.W.callWith_K (h₀ := X.base) I.ok.mod.kin hk (thn (ha.run pos pins s σ H _ I h) ?_) he hpl
  rintro us s1 ⟨vs, H1, I1, r, q⟩
  refine ⟨I1.kIn, ?_⟩
  have q' : sp vs H1 Q E0 := by have z := q; rw [List.append_nil] at z; exact z
  have hl : us.length = ps.length := by rw [← r.length]; exact F.len _ _ _ _ q'
  have bn := hb s1 us I1.kIn (by rw [List.append_nil]; exact hl)
  rw [List.append_nil] at bn
  refine wpAny_call (codeAny_mono (F.run X.A X.stack s1 H1 ⟨us, []⟩ us vs Q E0 hgd hr I1.env0 bn r q') fun rr s' hq => ?_)
  cases rr with
  | error e => exact (show False from hq).elim
  | ok fl =>
    cases fl with
    | ret u => exact I1.after hq
    | next => exact (show False from hq).elim
    | brk => exact (show False from hq).elim
    | cont => exact (show False from hq).elim
end
/-! ## the law's end over such a def -/
/-- the script alone is tracked, as it stands; or nothing is -/
def scriptHp (a : Addr) (vs : List Value) (ns : List Int) (tracked : Bool) : Hp := fun b =>
  if tracked = true ∧ b = a then some (.frz { cls := .type "list", data := .seq vs.toArray } (.lst (ns.map V.int))) else none
theorem scriptHp_some {a b : Addr} {vs : List Value} {ns : List Int} {t : Bool} {u : HO} (h : scriptHp a vs ns t b = some u) :
    t = true ∧ b = a ∧ u = .frz { cls := .type "list", data := .seq vs.toArray } (.lst (ns.map V.int)) := by
  unfold scriptHp at h
  by_cases c : t = true ∧ b = a
  · rw [if_pos c] at h
    exact ⟨c.1, c.2, (Option.some.inj h).symm⟩
  · rw [if_neg c] at h
    cases h
theorem enterG {P : Program} {w : World} {K : PySem.W.Frag} {mg mb : Str → Option Value} {k : Nat} {fa a : Addr} {fd : FuncData} {x : Str} {sp : Sp} {S : Shared} {vs : List Value} {ns : List Int}
    (inK : K.In S.heap) (gl : S.heap.Ns mainGlobals mg) (bl : S.heap.Ns builtinsNs mb) (bb : ∀ y : Str, y ≠ "__name__" → mb y = bootBuiltins y) (lim : S.heap.NoLimit) (gens : S.gens = #[])
    (at_a : S.heap.get? a = some { cls := .type "list", data := .seq vs.toArray }) (hin : IntsAre vs ns) (few : ns.length ≤ sizeLine) (room : Room k callerA)
    (F : ∀ base : Heap, K.In base → base.Ns mainGlobals mg → FnG P w K mg base CX0 k fa fd [x] sp)
    (bnd : ∀ (s : Shared) (u : Value), BindsTo s fd ⟨[u], []⟩ [(x, u)])
    (promise : ∀ H : Hp, SqL K H a (ns.map V.int) → (∀ b o, H b = some o → ∃ ob xs, o = .frz ob (.lst xs)) → sp [.ref a] H (fun v _ => v = .bl true) E0) :
    codeAny (model P w) callerA (.call (.ref fa) ⟨[.ref a], []⟩) (fun r s' => r = .ok (.ret (.bool true)) ∧ OldK S.heap s'.heap ∧ s'.os = S.os ∧ AllBare s'.gens) S := by
  have rv : Vals (ns.map V.int) vs := vals_ints hin
  obtain ⟨t, sq, noK⟩ : ∃ t : Bool, SqL K (scriptHp a vs ns t) a (ns.map V.int) ∧ (t = true → K.lookup a = none) := by
    cases e : K.lookup a with
    | none => exact ⟨true, Or.inl (Or.inr ⟨_, if_pos ⟨rfl, rfl⟩⟩), fun _ => rfl⟩
    | some o =>
      have e' := inK a o e
      rw [at_a] at e'
      obtain rfl := (Option.some.inj e').symm
      refine ⟨false, Or.inr ⟨_, vs.toArray, _, e, rfl, rfl, rfl, ?_, by simpa using rv⟩, fun z => by cases z⟩
      have := rv.length
      rw [List.length_map] at this
      rw [List.size_toArray]
      omega
  have ok : HOk P w (scriptHp a vs ns t) S.heap := by
    intro b u hb
    obtain ⟨_, rfl, rfl⟩ := scriptHp_some hb
    exact ⟨at_a, by rw [List.length_map]; exact few, vs, _, rv, at_a⟩
  have untr : ∀ (b : Addr) (o : Obj), S.heap.get? b = some o → b ≠ a → (hidT S.heap (scriptHp a vs ns t)).get? b = some o := by
    intro b o e ne
    refine hidT_get e ?_
    cases q : scriptHp a vs ns t b with
    | none => rfl
    | some u => exact absurd (scriptHp_some q).2.1 ne
  have nsOk : ∀ {b : Addr} {m : Str → Option Value}, S.heap.Ns b m → (hidT S.heap (scriptHp a vs ns t)).Ns b m := by
    rintro b m ⟨o, es, ep, e, d, r⟩
    refine ⟨o, es, ep, untr b o e ?_, d, r⟩
    rintro rfl
    rw [at_a] at e
    obtain rfl := Option.some.inj e
    exact Data.noConfusion (show Data.seq vs.toArray _ = Data.dict es ep from d)
  have kIn : K.In (hidT S.heap (scriptHp a vs ns t)) := by
    intro b o e
    refine hidT_get (inK b o e) ?_
    cases q : scriptHp a vs ns t b with
    | none => rfl
    | some u =>
      obtain ⟨tt, rfl, _⟩ := scriptHp_some q
      rw [noK tt] at e
      cases e
  obtain ⟨mc, l1, l2⟩ := lim
  have e0 : Env0 P w K mg (hidT S.heap (scriptHp a vs ns t)) callerA [] S (scriptHp a vs ns t) :=
    { frames := rfl, mod := ⟨kIn, nsOk gl, ⟨mb, nsOk bl, bb⟩, ⟨mc, nsOk l1, l2⟩⟩, bs := fun b o e => of_hidT e, bsz := Nat.le_of_eq (hidT_size _ _), funs := trivial,
      frf := fun b hb => by simp [frs] at hb, hok := ok, bare := AllBare.of_eq gens }
  have onlyF : ∀ b o, scriptHp a vs ns t b = some o → ∃ ob xs, o = .frz ob (.lst xs) := fun b o e => ⟨_, _, (scriptHp_some e).2.2⟩
  refine codeAny_mono ((F _ kIn (nsOk gl)).run callerA [] S _ ⟨[.ref a], []⟩ [.ref a] [.ref a] _ _ rfl room e0 (bnd S (.ref a)) (.cons rfl .nil) (promise _ sq onlyF)) ?_
  intro r s' h
  cases r with
  | error e => exact (show False from h).elim
  | ok fl =>
    cases fl with
    | next => exact (show False from h).elim
    | brk => exact (show False from h).elim
    | cont => exact (show False from h).elim
    | ret u =>
      obtain ⟨v, H', os, bare, un, ok', rr, q⟩ := h
      obtain rfl : v = .bl true := q
      obtain rfl : u = Value.bool true := rr
      refine ⟨rfl, OldK.of_keep ?_, os, bare⟩
      intro b o e
      cases q : scriptHp a vs ns t b with
      | none => exact un.keep b o e q (by simp [frs]) (by simp)
      | some u =>
        obtain ⟨_, rfl, rfl⟩ := scriptHp_some q
        have z := (ok' b _ (un.frzs b _ _ q)).1
        rw [at_a] at e
        rw [← e]
        exact z
theorem walkG {l : PySem.W.OpenLaw} {n k : Nat} {q : Program} {loose : List Str} {XP : (Str → Option Value) → Heap → Prop} {YP : World → Heap → Prop} {d : DefRec} {K : Params → PySem.W.Frag} {sp : PySem.W.Frag → Sp} {x : Str}
    (most : l.most = some n) (few : n ≤ sizeLine) (plain : d.params.defaults = []) (room : Room k callerA) (hY : ∀ (w : World) (h : Heap), YP w h → (K w.params).In h)
    (F : ∀ (w : World) (mg : Str → Option Value) (fa : Addr) (h : Heap), (K w.params).In h → h.Ns mainGlobals mg → mg d.name = some (.ref fa) →
      ∃ fd : FuncData, (∀ (s : Shared) (u : Value), BindsTo s fd ⟨[u], []⟩ [(x, u)]) ∧
        ∀ base : Heap, (K w.params).In base → base.Ns mainGlobals mg → FnG l.prog w (K w.params) mg base CX0 k fa fd [x] (sp (K w.params)))
    (promise : ∀ (K : PySem.W.Frag) (H : Hp) (a : Addr) (ns : List Int), ns.length ≤ n → SqL K H a (ns.map V.int) → (∀ b o, H b = some o → ∃ ob xs, o = .frz ob (.lst xs)) → sp K [.ref a] H (fun v _ => v = .bl true) E0) :
    PySem.W.WalkO q loose XP YP l.row.toRowW d [] (fun f vs => PySem.call f vs) := by
  refine Att.attach_call most plain ?_
  intro w s₀ S mg mb fa o pm cd doc a vs ns G Y ho hd hcd hmg hobj hints hlen hg
  obtain ⟨fd, hb, hF⟩ := F w mg fa _ (hY w _ Y) G.T.g hmg
  exact enterG (hY w _ Y) G.T.g G.T.b G.T.builtins G.T.nolimit hg hobj hints (Nat.le_trans hlen few) room hF hb fun H h1 h2 => promise _ H a ns hlen h1 h2
end Xby

set_option Elab.async false
set_option linter.all false
set_option maxRecDepth 100000
set_option maxHeartbeats 4000000
/-! # repr of data; list != []; ** of great numbers; == and != of an own class -/
namespace Xby
open PySem PySem.Spec PyProof.Rows L2
/-! ## data, dicts among it -/
def keyD : Key → PyData
  | .inl i => .int i
  | .inr x => .str x
mutual
inductive Dq (K : PySem.W.Frag) (H : Hp) : V → PyData → Prop
  | non : Dq K H .non .none
  | bl (b : Bool) : Dq K H (.bl b) (.bool b)
  | int (i : Int) : Dq K H (.int i) (.int i)
  | str (x : Str) : Dq K H (.str x) (.str x)
  | lst {a : Addr} {xs : List V} {ds : List PyData} : H a = some (.lst xs) → sysModules ≠ a → DqAll K H xs ds → Dq K H (.ref a) (.list ds)
  | tup {a : Addr} {xs : List V} {ds : List PyData} : SqT K H a xs → DqAll K H xs ds → Dq K H (.ref a) (.tuple ds)
  | dct {a : Addr} {kvs : List (Key × V)} {ds : List (PyData × PyData)} : H a = some (.dK kvs) → DqKv K H kvs ds → Dq K H (.ref a) (.dict ds)
inductive DqAll (K : PySem.W.Frag) (H : Hp) : List V → List PyData → Prop
  | nil : DqAll K H [] []
  | cons {v : V} {vs : List V} {d : PyData} {ds : List PyData} : Dq K H v d → DqAll K H vs ds → DqAll K H (v :: vs) (d :: ds)
inductive DqKv (K : PySem.W.Frag) (H : Hp) : List (Key × V) → List (PyData × PyData) → Prop
  | nil : DqKv K H [] []
  | cons {k : Key} {v : V} {r : List (Key × V)} {d : PyData} {ds : List (PyData × PyData)} : Dq K H v d → DqKv K H r ds → DqKv K H ((k, v) :: r) ((keyD k, d) :: ds)
end
section
variable {X : Cx} {pins : List (Addr × Obj)} {σ : L2.St} {H : Hp} {s : Shared}
theorem readsKeys {K : PySem.W.Frag} {h : Heap} {es : List DictEntry} {vs : List (Key × Value)} (p : Pairs (mixKind X.prog X.w) es vs) :
    ∀ {kvs : List (Key × V)} {ds : List (PyData × PyData)}, KV kvs vs → DqKv K H kvs ds → ReadsAll h (es.map (·.key)) (ds.map (·.1)) [] := by
  induction p with
  | nil =>
    intro kvs ds kv q
    cases kv
    cases q
    exact .nil
  | @cons e kv0 es kvs0 h1 h2 h3 ih =>
    intro kvs ds kv q
    cases kv with
    | cons r t =>
      cases q with
      | @cons k v rr d dd q1 q2 =>
        have tl := ih t q2
        have r1 : k = kv0.1 := r.1
        have hd : Reads h e.key (keyD k) [] := by
          rcases keyIs_shape (show keyIs _ _ = true from h1) with ⟨i, tk, e1, e2⟩ | ⟨x, tk, e1, e2⟩
          · rw [r1, e1, e2]
            exact .int i tk
          · rw [r1, e1, e2]
            exact .str x tk
        exact .cons hd tl
mutual
theorem Dq.reads (I : Inv X pins σ H s) : ∀ (d : PyData) (v : V) (u : Value), Dq X.K H v d → RelV v u → ∃ as, Reads s.heap u d as ∧ sysModules ∉ as
  | .none, _, _, h, r => by
    cases h; cases r
    exact ⟨[], Reads.none, by simp⟩
  | .bool b, _, _, h, r => by
    cases h; cases r
    exact ⟨[], Reads.bool b, by simp⟩
  | .int i, _, _, h, r => by
    cases h
    obtain ⟨t, rfl⟩ := r
    exact ⟨[], Reads.int i t, by simp⟩
  | .str x, _, _, h, r => by
    cases h
    obtain ⟨t, rfl⟩ := r
    exact ⟨[], Reads.str x t, by simp⟩
  | .list ds, _, _, h, r => by
    cases h with
    | lst hs sm ha =>
      cases r
      obtain ⟨its, rv, ⟨o, n, ho, hc, _, hd⟩, _⟩ := I.list (SqL.of hs)
      obtain ⟨as, hr, ha⟩ := Dq.readsAll I ds _ its ha rv
      exact ⟨_, Reads.list ho hc hd hr, by rw [List.mem_cons, not_or]; exact ⟨sm, ha⟩⟩
  | .tuple ds, _, _, h, r => by
    cases h with
    | tup hs ha =>
      cases r
      obtain ⟨its, rv, ⟨o, ho, hc, n, hd⟩, _⟩ := I.tuple hs
      obtain ⟨as, hr, ha⟩ := Dq.readsAll I ds _ its ha rv
      exact ⟨_, Reads.tuple ho hc hd hr, ha⟩
  | .dict ds, _, _, h, r => by
    cases h with
    | dct hs ha =>
      cases r
      obtain ⟨_, sm, vs, kv, o, es, ep, ho, ex, hd, _, prs, _⟩ := I.hok _ _ hs
      obtain ⟨bs, hr, hb⟩ := Dq.readsKv I ds _ vs es.toList ha kv prs
      refine ⟨_, Reads.dict ho ex.1 hd (readsKeys prs kv ha) hr, ?_⟩
      rw [List.mem_append, List.mem_cons, not_or, not_or]
      exact ⟨⟨fun e => by rw [e] at sm; simp at sm, by simp⟩, hb⟩
theorem Dq.readsAll (I : Inv X pins σ H s) : ∀ (ds : List PyData) (vs : List V) (us : List Value), DqAll X.K H vs ds → Vals vs us → ∃ as, ReadsAll s.heap us ds as ∧ sysModules ∉ as
  | [], _, _, h, r => by
    cases h; cases r
    exact ⟨[], ReadsAll.nil, by simp⟩
  | d :: ds, _, _, h, r => by
    cases h with
    | cons h1 h2 =>
      cases r with
      | cons r1 r2 =>
        obtain ⟨as, q1, n1⟩ := Dq.reads I d _ _ h1 r1
        obtain ⟨bs, q2, n2⟩ := Dq.readsAll I ds _ _ h2 r2
        exact ⟨_, ReadsAll.cons q1 q2, by rw [List.mem_append, not_or]; exact ⟨n1, n2⟩⟩
theorem Dq.readsKv (I : Inv X pins σ H s) : ∀ (ds : List (PyData × PyData)) (kvs : List (Key × V)) (vs : List (Key × Value)) (es : List DictEntry), DqKv X.K H kvs ds → KV kvs vs → Pairs (mixKind X.prog X.w) es vs →
    ∃ as, ReadsAll s.heap (es.map (·.val)) (ds.map (·.2)) as ∧ sysModules ∉ as
  | [], _, _, _, h, r, p => by
    cases h; cases r; cases p
    exact ⟨[], ReadsAll.nil, by simp⟩
  | (_, d) :: ds, _, _, _, h, r, p => by
    cases h with
    | cons h1 h2 =>
      cases r with
      | cons r1 r2 =>
        cases p with
        | cons p1 p2 p3 =>
          obtain ⟨as, q1, n1⟩ := Dq.reads I d _ _ h1 (p2.symm ▸ r1.2)
          obtain ⟨bs, q2, n2⟩ := Dq.readsKv I ds _ _ _ h2 r2 p3
          exact ⟨_, ReadsAll.cons q1 q2, by rw [List.mem_append, not_or]; exact ⟨n1, n2⟩⟩
end
theorem mods_lt (I : Inv X pins σ H s) : sysModules < s.heap.objs.size := Nat.lt_of_le_of_lt (show sysModules ≤ mainGlobals by decide) (I.mod.glob.keeps I.bk).lt
/-- small enough to be shown -/
structure Fine (d : PyData) : Prop where
  sh : d.showable = true
  len : d.shown.length ≤ sizeLine
  dp : d.depth ≤ 60
def rRepr (K : PySem.W.Frag) : List V → Hp → VK → Prop := fun xs H Q => ∃ (x : V) (d : PyData), xs = [x] ∧ Dq K H x d ∧ Fine d ∧ Q (.str d.shown) H
theorem call_reprD (hg : X.A.guards = some []) (hu : X.A.units + 64 < cLine) : CallR X (.builtin "repr") (rRepr X.K) := by
  rintro pins s σ H xs us Q I rv ⟨x, d, rfl, hd, fine, q⟩
  obtain ⟨u, rfl, r⟩ := vals1 rv
  obtain ⟨as, rd, sm⟩ := Dq.reads I d x u hd r
  have dp := fine.dp
  cases rd with
  | none => exact PySem.P.repr_of_none ⟨.str _, H, I.tok _, ⟨_, rfl⟩, by simpa only [PyData.shown] using q⟩
  | bool b => exact PySem.P.repr_of_bool ⟨.str _, H, I.tok _, ⟨_, rfl⟩, by simpa only [PyData.shown] using q⟩
  | int i t => exact PySem.P.repr_of_int (by simpa [PyData.showable] using fine.sh) ⟨.str _, H, I.tok _, ⟨_, rfl⟩, by simpa only [PyData.shown] using q⟩
  | str y t => exact PySem.P.repr_of_str ⟨.str _, H, I.tok _, ⟨_, rfl⟩, by simpa only [PyData.shown] using q⟩ (by simpa only [PyData.shown] using fine.len)
  | list h1 h2 h3 h4 =>
    refine repr_of_reads' (Reads.list h1 h2 h3 h4) fine.sh (fun _ => sm) hg (by omega) (fun _ _ e => e) (fun h' u tk k => ?_) fine.len
    exact ⟨.str _, H, I.kept k, ⟨_, rfl⟩, q⟩
  | tuple h1 h2 h3 h4 =>
    refine repr_of_reads' (Reads.tuple h1 h2 h3 h4) fine.sh (fun _ => sm) hg (by omega) (fun _ _ e => e) (fun h' u tk k => ?_) fine.len
    exact ⟨.str _, H, I.kept k, ⟨_, rfl⟩, q⟩
  | dict h1 h2 h3 h4 h5 =>
    refine repr_of_reads' (Reads.dict h1 h2 h3 h4 h5) fine.sh (fun _ => sm) hg (by omega) (fun _ _ e => e) (fun h' u tk k => ?_) fine.len
    exact ⟨.str _, H, I.kept k, ⟨_, rfl⟩, q⟩
end
mutual
theorem Dq.same {K : PySem.W.Frag} {H H' : Hp} (e : Same H H') : ∀ {v : V} {d : PyData}, Dq K H v d → Dq K H' v d
  | _, _, .non => .non
  | _, _, .bl b => .bl b
  | _, _, .int i => .int i
  | _, _, .str x => .str x
  | _, _, .lst h n a => .lst (e _ _ h) n (DqAll.same e a)
  | _, _, .tup h a => .tup (SqT.ext h e) (DqAll.same e a)
  | _, _, .dct h a => .dct (e _ _ h) (DqKv.same e a)
theorem DqAll.same {K : PySem.W.Frag} {H H' : Hp} (e : Same H H') : ∀ {vs : List V} {ds : List PyData}, DqAll K H vs ds → DqAll K H' vs ds
  | _, _, .nil => .nil
  | _, _, .cons h a => .cons (Dq.same e h) (DqAll.same e a)
theorem DqKv.same {K : PySem.W.Frag} {H H' : Hp} (e : Same H H') : ∀ {kvs : List (Key × V)} {ds : List (PyData × PyData)}, DqKv K H kvs ds → DqKv K H' kvs ds
  | _, _, .nil => .nil
  | _, _, .cons h a => .cons (Dq.same e h) (DqKv.same e a)
end
section
variable {X : Cx}
/-- the same of data without dicts, wherever its lists lie -/
def rReprP (K : PySem.W.Frag) : List V → Hp → VK → Prop := fun xs H Q => ∃ (x : V) (d : PyData), xs = [x] ∧ Dp K H x d ∧ d.hasDict = false ∧ Fine d ∧ Q (.str d.shown) H
theorem call_reprP (hg : X.A.guards = some []) (hu : X.A.units + 64 < cLine) : CallR X (.builtin "repr") (rReprP X.K) := by
  rintro pins s σ H xs us Q I rv ⟨x, d, rfl, hd, nd, fine, q⟩
  obtain ⟨u, rfl, r⟩ := vals1 rv
  obtain ⟨as, rd⟩ := Dp.reads I d x u hd r
  have dp := fine.dp
  cases rd with
  | none => exact PySem.P.repr_of_none ⟨.str _, H, I.tok _, ⟨_, rfl⟩, by simpa only [PyData.shown] using q⟩
  | bool b => exact PySem.P.repr_of_bool ⟨.str _, H, I.tok _, ⟨_, rfl⟩, by simpa only [PyData.shown] using q⟩
  | int i t => exact PySem.P.repr_of_int (by simpa [PyData.showable] using fine.sh) ⟨.str _, H, I.tok _, ⟨_, rfl⟩, by simpa only [PyData.shown] using q⟩
  | str y t => exact PySem.P.repr_of_str ⟨.str _, H, I.tok _, ⟨_, rfl⟩, by simpa only [PyData.shown] using q⟩ (by simpa only [PyData.shown] using fine.len)
  | list h1 h2 h3 h4 =>
    refine repr_of_reads' (Reads.list h1 h2 h3 h4) fine.sh (PyData.noDict_hsm nd) hg (by omega) (fun _ _ e => e) (fun h' u tk k => ?_) fine.len
    exact ⟨.str _, H, I.kept k, ⟨_, rfl⟩, q⟩
  | tuple h1 h2 h3 h4 =>
    refine repr_of_reads' (Reads.tuple h1 h2 h3 h4) fine.sh (PyData.noDict_hsm nd) hg (by omega) (fun _ _ e => e) (fun h' u tk k => ?_) fine.len
    exact ⟨.str _, H, I.kept k, ⟨_, rfl⟩, q⟩
  | dict h1 h2 h3 h4 h5 =>
    simp only [PyData.hasDict] at nd
    cases nd
/-- a written list; it is not sys.modules -/
def tLstS (t : TA) : TE := fun σ H Q => t σ H fun xs H1 => xs.length ≤ sizeLine ∧ ∀ p, H1 p = none → sysModules ≠ p → Q (.ref p) (L2.upd H1 p (.lst xs))
theorem pe_lstS {es : List Expr} {t : TA} {pos : Pos} (h : PA X es t) : PE X (.List es pos) (tLstS t) := by
  constructor
  intro pins s σ H Q I hq
  refine wpAny_List_spliced (thn (h.run pos pins s σ H _ I hq) ?_)
  rintro us s1 ⟨xs, H1, I1, r, z, q⟩
  refine ⟨r.length ▸ z, ?_⟩
  have J := I1.laid (a := s1.heap.objs.size) (o := .lst xs) (h' := s1.heap.push { cls := .type "list", data := .seq us.toArray }) (t' := s1.toks) (fun b u e => Heap.get?_push_of_some _ e) (Nat.le_refl _) ⟨z, us, 0, r, Heap.get?_push_size _ rfl⟩
  exact ⟨.ref _, _, J, rfl, q _ (I1.hok.fresh (Nat.le_refl _)) (Nat.ne_of_lt (mods_lt I1))⟩
end
end Xby

set_option Elab.async false
set_option linter.all false
set_option maxRecDepth 100000
set_option maxHeartbeats 4000000
namespace Xby
open PySem PySem.Spec PyProof.Rows L2
section
variable {X : Cx}
/-- ** within 2^27 bits -/
def CPowW (i j : Int) : Prop := 0 ≤ j ∧ (Builtin.Int.intBits i : Int) * j ≤ 2 ^ 27
theorem op_powW : OpR X (binaryOp .Pow) (rI CPowW fun i j => .int (i ^ j.toNat)) := opI fun _ _ _ _ _ _ _ c q => pow_int c.1 c.2 q
/-- xs != [] -/
def rNeNil (K : PySem.W.Frag) : R2 := fun x y H Q => ∃ a b xs, x = .ref a ∧ y = .ref b ∧ SqL K H a xs ∧ SqL K H b [] ∧ Q (.bl (!xs.isEmpty)) H
theorem op_neNil (hu : X.A.units < cLine) : OpR X (compareOp .NotEq) (rNeNil X.K) := by
  rintro pins s σ H x y v u Q I rx ry ⟨a, b, xs, rfl, rfl, ha, hb, q⟩
  obtain rfl : v = Value.ref a := rx
  obtain rfl : u = Value.ref b := ry
  obtain ⟨its, rv, p, _⟩ := I.list ha
  obtain ⟨its2, rv2, p2, _⟩ := I.list hb
  cases rv2
  have l := rv.length
  unfold compareOp
  cases xs with
  | nil =>
    cases rv
    refine SeqAt.RcNeAt.lists p.isList p2.isList rfl hu (e := fun _ => true) (fun j h1 => absurd h1 (by simp)) _ _ _ _ ?_
    exact ⟨.bl false, H, I, rfl, q⟩
  | cons z zs =>
    refine SeqAt.RcNeAt.lists_lengths p.isList p2.isList ?_ hu _ _ _ _ ⟨.bl true, H, I, rfl, q⟩
    have : its.length ≠ 0 := by rw [← l]; simp
    simpa using this
end
section
open PySem.W
variable {prog : Program} {w : World} {A : Around} {E : Value → Shared → Prop} {s : Shared} {K : Frag} {x C f : Addr} {ox : Obj} {od : Option Obj} {b tb : Value}
theorem special_look {M : Model} {h : Heap} {nm : Str} {id : String} (X : K.In h) (I : InstAt h x ox C od) (hs : findIn K (.ref C) nm = some (some (.builtin id))) :
    Looks M h (specialOf (.ref x) nm) (some (.builtin id)) := I.type.andThen (looks_findIn X hs)
/-- x != b by the class's own ==, where object's != stands -/
theorem ne_own {Q : Value → Shared → Prop} (hu : A.units + 1 < cLine) (X : K.In s.heap) (I : InstAt s.heap x ox C od) (ne : findIn K (.ref C) "__ne__" = some (some (.builtin "object.__ne__")))
    (eq : findIn K (.ref C) "__eq__" = some (some (.ref f))) (hf : isFn K (.ref f) = true) (ob : mroIn K C (.type "object") = some true) (hb : Looks (model prog w) s.heap (typeOf b) tb) (hn : notFirst K C tb = true)
    (h : wpAny (model prog w) A.in1 (call (.ref f) [.ref x, b]) (fun v s' => ∃ c, v = .bool c ∧ Q (.bool (!c)) s') E s) :
    wpAny (model prog w) A (richCompare .NotEq (.ref x) b) Q E s := by
  have one : wpAny (model prog w) A (tryCompare (.ref x) "__ne__" b) (fun r s' => ∃ v, r = some v ∧ Q v s') E s := by
    unfold tryCompare
    refine wpAny_bind (NtL.csib (special_look X I ne) (F.slot_dict_itemiterator_ne.bind _) ?_)
    refine wpAny_call (codeAny_call_builtin F.slot_dict_itemiterator_ne.plain F.cmpEntry_ne (PySem.W.check_slot F.cmpKind_ne F.cmpSplit_ne (I.type.andThen (looks_mroIn X ob)) (F.cmpArgs_ne _ _) ?_))
    unfold Builtin.«object.__ne__»
    repeat (first
      | with_reducible refine wpAny_cRoomFor (show A.in1.units < cLine from hu) ?_
      | (refine wpAny_bind (m := callSpecialIfBound? (.ref x) (Str.ofString "__eq__") [b]) (ifBound_K X I eq hf (wpAny_mono h (fun v s' hv => ?_) fun _ _ z => z)); obtain ⟨c, rfl, q⟩ := hv)
      | exact ⟨_, rfl, q⟩
      | exact wpAny_pure ⟨_, rfl, q⟩
      | (refine wpAny_bind (m := truthy (.bool _)) (wpAny_truthy_bool ?_))
      | wp_step)
  unfold richCompare
  simp only [oneThing_ref]
  refine wpAny_holding (wpAny_bind (wpAny_cRoomFor (Nat.lt_of_succ_lt hu) ?_))
  refine wpAny_bind (I.type.here (wpAny_bind (hb.here ?_)))
  have e : tb ≠ .ref C → subIn K tb (.ref C) = some false := fun n => by
    unfold notFirst at hn
    rcases Bool.or_eq_true_iff.mp hn with z | z
    · exact absurd (beq_iff_eq.mp z) n
    · exact beq_iff_eq.mp z
  have fin : ∀ {α : Type} {k : Option Value → Sem α} {R : α → Shared → Prop}, (∀ v s', Q v s' → wpAny (model prog w) A (k (some v)) R E s') → wpAny (model prog w) A (tryCompare (.ref x) "__ne__" b >>= k) R E s := fun h2 =>
    wpAny_bind (wpAny_mono one (fun r s' z => by obtain ⟨v, rfl, q⟩ := z; exact h2 v s' q) fun _ _ z => z)
  by_cases c : tb = .ref C
  · rw [if_neg (by rw [c]; simp)]
    refine wpAny_bind (wpAny_pure ?_)
    rw [if_neg Bool.false_ne_true]
    exact fin fun v s' q => wpAny_pure q
  · rw [if_pos (by simpa using fun z => c z.symm)]
    refine wpAny_bind ((looks_subIn X (e c)).here ?_)
    rw [if_neg Bool.false_ne_true]
    exact fin fun v s' q => wpAny_pure q
end
section
variable {X : Cx} {C f : Addr} {fd : FuncData} {n : Nat} {sp : Sp} {ps : List Str} {CX : CXT} {E : XK}
theorem vback {Q : Value → Shared → Prop} {z : V} {v : Value} {s' : Shared} (r : RelV z v) (h : Q v s') : PySem.W.CmpBack Q v s' := by
  cases z with
  | non => cases r; exact h
  | bl _ => cases r; exact h
  | int _ => obtain ⟨t, rfl⟩ := r; exact h
  | str _ => obtain ⟨t, rfl⟩ := r; exact h
  | byt _ => obtain ⟨t, rfl⟩ := r; exact h
  | flt _ => obtain ⟨t, rfl⟩ := r; exact h
  | ref _ => cases r; exact h
  | ty _ => cases r; exact h
/-- x == y, x != y, x an instance of the class at C whose == is the def at f; y of type tb -/
def rOwn (K : PySem.W.Frag) (C : Addr) (sp : Sp) (E : XK) (g : VK → VK) : R2 := fun x y H Q => ∃ (a dx : Addr) (fs : List (Str × V)) (tb : Value), x = .ref a ∧ H a = some (.ins C dx fs) ∧ TyX K H y tb ∧ PySem.W.notFirst K C tb = true ∧ sp [x, y] H (g Q) E
theorem op_ownEq (F : FnOk X.prog X.w X.K X.mg X.base CX n f fd ps sp) (hr : Room n X.A) (bd : Binds X.K fd ps []) (hx : Passes CX X E)
    (eq : PySem.W.findIn X.K (.ref C) "__eq__" = some (some (.ref f))) (hf : PySem.W.isFn X.K (.ref f) = true) : OpR X (compareOp .Eq) (rOwn X.K C sp E fun Q => Q) := by
  rintro pins s σ H x y v u Q I rx ry ⟨a, dx, fs, tb, rfl, ha, ty, nf, q⟩
  obtain rfl : v = Value.ref a := rx
  obtain ⟨mA, J, _⟩ := ins_get I.hok ha
  obtain ⟨od, J, _⟩ := J.look
  obtain ⟨P, kx, hp, _⟩ := kit_of I ry ty
  obtain ⟨m, hF⟩ := I.fr
  refine PySem.W.cmp_K (op := .Eq) (tb := tb) hr.units0 hF I.ok.mod.kin J (kx.ty _ _ I.kIn hp) nf eq hf ?_
  refine wpAny_mono (run_fn (us := [.ref a, u]) (vs := [.ref a, y]) (dvs := []) F hr bd .nil hx I (.cons rfl (.cons ry .nil)) q) (fun w s' z => ?_) fun _ _ z => z
  obtain ⟨z', H', I', rz, qz⟩ := z
  exact vback rz ⟨z', H', I', rz, qz⟩
end
section
variable {X : Cx} {C f : Addr} {fd : FuncData} {n : Nat} {sp : Sp} {ps : List Str}
theorem op_ownNe (F : FnOk X.prog X.w X.K X.mg X.base CX0 n f fd ps sp) (hr : Room (n + 1) X.A) (bd : Binds X.K fd ps [])
    (eq : PySem.W.findIn X.K (.ref C) "__eq__" = some (some (.ref f))) (hf : PySem.W.isFn X.K (.ref f) = true) (ne : PySem.W.findIn X.K (.ref C) "__ne__" = some (some (.builtin "object.__ne__"))) (ob : PySem.W.mroIn X.K C (.type "object") = some true) :
    OpR X (compareOp .NotEq) (rOwn X.K C sp E0 fun Q v H => ∃ c, v = .bl c ∧ Q (.bl (!c)) H) := by
  rintro pins s σ H x y v u Q I rx ry ⟨a, dx, fs, tb, rfl, ha, ty, nf, q⟩
  obtain rfl : v = Value.ref a := rx
  obtain ⟨mA, J, _⟩ := ins_get I.hok ha
  obtain ⟨od, J, _⟩ := J.look
  obtain ⟨P, kx, hp, _⟩ := kit_of I ry ty
  have hun : X.A.units + 1 < cLine := by have := hr.un; omega
  unfold compareOp
  refine ne_own hun I.kIn J ne eq hf ob (kx.ty _ _ I.kIn hp) nf ?_
  have e0 : Env0 X.prog X.w X.K X.mg X.base X.A.in1 X.stack s H := I.env0.in1
  have hl := F.len _ _ _ _ q
  have rv : Vals [V.ref a, y] [Value.ref a, u] := .cons rfl (.cons ry .nil)
  have bn := bd s [.ref a, u] I.kIn (by rw [List.append_nil]; simpa using hl)
  rw [List.append_nil] at bn
  refine wpAny_call (codeAny_mono (F.run X.A.in1 X.stack s H ⟨[.ref a, u], []⟩ [.ref a, u] [.ref a, y] _ E0 hr.in1 e0 bn rv q) fun r s' hq => ?_)
  cases r with
  | error e => exact (show False from hq).elim
  | ok fl =>
    cases fl with
    | next => exact (show False from hq).elim
    | brk => exact (show False from hq).elim
    | cont => exact (show False from hq).elim
    | ret w =>
      obtain ⟨z, H', I', rz, c, rfl, qz⟩ := I.after hq
      obtain rfl : w = Value.bool c := rz
      exact ⟨c, rfl, .bl (!c), H', I', rfl, qz⟩
end
section
variable {X : Cx} {C f : Addr} {fd : FuncData} {n : Nat} {sp : Sp} {ps : List Str}
/-- the same, for a written part told -/
theorem op_ownEqK (K : PySem.W.Frag) (mg : Str → Option Value) (base : Heap) (P : Program) (w : World) (hK : X.K = K) (hm : X.mg = mg) (hB : X.base = base) (hP : X.prog = P) (hw : X.w = w) (F : FnOk P w K mg base CX0 n f fd ps sp) (hr : Room n X.A) (bd : Binds K fd ps [])
    (eq : PySem.W.findIn K (.ref C) "__eq__" = some (some (.ref f))) (hf : PySem.W.isFn K (.ref f) = true) : OpR X (compareOp .Eq) (rOwn K C sp E0 fun Q => Q) := by
  subst hK hm hB hP hw
  exact op_ownEq F hr bd pass0 eq hf
theorem op_ownNeK (K : PySem.W.Frag) (mg : Str → Option Value) (base : Heap) (P : Program) (w : World) (hK : X.K = K) (hm : X.mg = mg) (hB : X.base = base) (hP : X.prog = P) (hw : X.w = w) (F : FnOk P w K mg base CX0 n f fd ps sp) (hr : Room (n + 1) X.A) (bd : Binds K fd ps [])
    (eq : PySem.W.findIn K (.ref C) "__eq__" = some (some (.ref f))) (hf : PySem.W.isFn K (.ref f) = true) (ne : PySem.W.findIn K (.ref C) "__ne__" = some (some (.builtin "object.__ne__"))) (ob : PySem.W.mroIn K C (.type "object") = some true) :
    OpR X (compareOp .NotEq) (rOwn K C sp E0 fun Q v H => ∃ c, v = .bl c ∧ Q (.bl (!c)) H) := by
  subst hK hm hB hP hw
  exact op_ownNe F hr bd eq hf ne ob
end
section
variable {X : Cx}
theorem ix_listK (K : PySem.W.Frag) (hK : X.K = K) : IxR X (rIxL K) := by
  subst hK
  exact ix_list
theorem ix_tupK (K : PySem.W.Frag) (hK : X.K = K) : IxR X (rIxT K) := by
  subst hK
  exact ix_tup
theorem ix_seqK (K : PySem.W.Frag) (hK : X.K = K) : IxR X (rIx K) := by
  subst hK
  exact ix_seq
theorem op_inK (K : PySem.W.Frag) (hK : X.K = K) : OpR X (compareOp .In) (rIn K false) := by
  subst hK
  exact op_in_seq
theorem op_notInK (K : PySem.W.Frag) (hK : X.K = K) : OpR X (compareOp .NotIn) (rIn K true) := by
  subst hK
  exact op_notIn_seq
theorem call_lenK (K : PySem.W.Frag) (hK : X.K = K) : CallR X (.builtin "len") (fun xs H Q => ∃ x n, xs = [x] ∧ LenV K x H n ∧ Q (.int n) H) := by
  subst hK
  exact call_len
theorem call_isiK (K : PySem.W.Frag) (hK : X.K = K) : CallR X (.builtin "isinstance") (rIsi K) := by
  subst hK
  exact call_isi
theorem sl_listK (K : PySem.W.Frag) (hK : X.K = K) : SlR X (rSlL K) := by
  subst hK
  exact sl_list
theorem sl_tupK (K : PySem.W.Frag) (hK : X.K = K) : SlR X (rSlT K) := by
  subst hK
  exact sl_tup
theorem call_listK (K : PySem.W.Frag) (hK : X.K = K) : CallR X (.type "list") (fun xs H Q => ∃ p ys, xs = [.ref p] ∧ (SqL K H p ys ∨ SqT K H p ys) ∧ ∀ l, H l = none → Q (.ref l) (upd H l (.lst ys))) := by
  subst hK
  exact call_list_of
theorem cr_allK (K : PySem.W.Frag) (hK : X.K = K) (hc : X.calm = true) : CallR X (.builtin "all") (rAll K) := by
  subst hK
  exact cr_all hc
theorem cr_anyK (K : PySem.W.Frag) (hK : X.K = K) (hc : X.calm = true) : CallR X (.builtin "any") (rAny K) := by
  subst hK
  exact cr_any hc
theorem op_eqDK (K : PySem.W.Frag) (hK : X.K = K) (hu : X.A.units + 64 < cLine) : OpR X (compareOp .Eq) (rEqD K) := by
  subst hK
  exact op_eqD hu
theorem op_neDK (K : PySem.W.Frag) (hK : X.K = K) (hu : X.A.units + 64 < cLine) : OpR X (compareOp .NotEq) (rNeD K) := by
  subst hK
  exact op_neD hu
theorem op_neNilK (K : PySem.W.Frag) (hK : X.K = K) (hu : X.A.units < cLine) : OpR X (compareOp .NotEq) (rNeNil K) := by
  subst hK
  exact op_neNil hu
theorem call_reprK (K : PySem.W.Frag) (hK : X.K = K) (hg : X.A.guards = some []) (hu : X.A.units + 64 < cLine) : CallR X (.builtin "repr") (rRepr K) := by
  subst hK
  exact call_reprD hg hu
theorem call_reprPK (K : PySem.W.Frag) (hK : X.K = K) (hg : X.A.guards = some []) (hu : X.A.units + 64 < cLine) : CallR X (.builtin "repr") (rReprP K) := by
  subst hK
  exact call_reprP hg hu
theorem pe_fldK (K : PySem.W.Frag) (hK : X.K = K) {e : Expr} {f : Str} {pos : Pos} {ta : TE} (he : PE X e ta) (hb : attributeBase e f X.env (eval e X.env) = eval e X.env) : PE X (.Attribute e f pos) (tFld K ta f) := by
  subst hK
  exact pe_fld he hb
theorem pi_listK (K : PySem.W.Frag) (hK : X.K = K) {tg l : Expr} {tl : TE} (hl : PE X l tl) : PI X tg l (iList K tl) := by
  subst hK
  exact pi_list hl
theorem pi_tupK (K : PySem.W.Frag) (hK : X.K = K) {tg l : Expr} {tl : TE} (hl : PE X l tl) : PI X tg l (iTup K tl) := by
  subst hK
  exact pi_tup hl
end
end Xby

set_option Elab.async false
set_option linter.all false
set_option maxRecDepth 100000
set_option maxHeartbeats 4000000
namespace PySem
namespace LowV
open PySem.W PySem.Calls PyProof.Rows PySem.HandSPX
/-! ### the text of __init__ -/
def iA (p1 p2 : Pos) : Arguments := { posonlyargs := [], args := [{ arg := "self", annotation := none, pos := p1 }, { arg := "value", annotation := none, pos := p2 }], vararg := none, kwonlyargs := [], kw_defaults := [], kwarg := none, defaults := [] }
def iB (q1 q2 q3 q4 : Pos) : List Stmt := [.Assign [.Attribute (.Name "self" q1) "value" q2] (.Name "value" q3) q4]
def iS : Scope := { kind := .function, names := [(PySem.Str.ofString "self", .local), (PySem.Str.ofString "value", .local)], isGenerator := false, isCoroutine := false, more := [] }
/-- what the written part says of Low, at C, and of its __init__, at fI -/
structure LowTxt (K : Frag) (mg : Str → Option Value) (cn qn : Str) (C fI : Addr) : Prop where
  gC : mg cn = some (.ref C)
  cls : ∃ nm q N bs bm sn sub ab col dd k0 k1 k2 k3 k5, K.lookup C = some (excClassObj nm q C N bs bm true sn sub ab col dd k0 k1 k2 k3 k5 "ValueError.__new__") ∧ refsVE bm = true
  sa : findIn K (.ref C) "__setattr__" = some (some (.builtin "object.__setattr__"))
  ga : findIn K (.ref C) "__getattribute__" = some (some (.builtin "BaseException.__getattribute__"))
  gg : findIn K (.ref C) "__getattr__" = some none
  noN : findIn K (.ref C) "value" = some none
  iC : findIn K (.ref C) "__init__" = some (some (.ref fI))
  tC : typeIn K (.ref fI) = some (.type "function")
  kC : keepIn K (.ref C) = true
  exC : subIn K (.ref C) (.type "BaseException") = some true
  tyC : typeIn K (.ref C) = some (.type "type")
  hdC : hasDictIn K C = true
  te : exmOne K (.ref C) (.ref C) = some true
  fn : ∃ (oc : Value) (od : Option Addr) (doc pm : Value) (an : Option Addr) (cdv ct : Value) (osl : Array (Option Value)) (p1 p2 q1 q2 q3 q4 : Pos),
    K.lookup fI = some ⟨oc, od, .func (fnOf "__init__" qn (iA p1 p2) (iB q1 q2 q3 q4) iS .none .none doc pm an cdv ct), osl⟩ ∧ codeIn K cdv qn = true
theorem one_size (v : Value) : [v].length ≤ sizeLine := by
  rw [sizeLine_eq]
  exact (by decide : 1 ≤ 16777216)
theorem kept_but {K : Frag} {h h' : Heap} {x : Addr} (X : K.In h) (hx : K.lookup x = none) (k : ∀ b o, b ≠ x → h.get? b = some o → h'.get? b = some o) : K.In h' := fun a o e =>
  k a o (fun z => by rw [z, hx] at e; cases e) (X a o e)
theorem ldC {M : Model} {s : Shared} {name : Str} {scope : Scope} {L a : Addr} {cd : Value} {m : Str → Option Value} {x : Str} {pos : Pos} {v : Value} {Q : Value → Shared → Prop} {A : Around} {E : Value → Shared → Prop} (hn : s.heap.Ns L m) (hv : m x = some v) (h : Q v s)
    (hk : scope.kind = .function := by rfl) (hl : (envOfC name scope L a cd).kindOf x = some .local := by rfl) (hd : (x == ("__debug__" : Str)) = false := by decide) :
    wpAny M A (eval (.Name x pos) (envOfC name scope L a cd)) Q E s := wpAny_Name (wpAny_loadName_local hk hl hn hv h) hd
/-- what __init__ leaves of a fresh exception at x -/
structure InitEnd (h h' : Heap) (x C dx t1 : Addr) (v : Value) : Prop where
  keep : ∀ b o, b ≠ x → h.get? b = some o → h'.get? b = some o
  obj : h'.get? x = some { cls := .ref C, dict := some dx, data := .fields #[.ref t1, .none, .none, .none, .bool false, .none] }
  dbig : h.objs.size ≤ dx
  dne : dx ≠ x
  ns : h'.Ns1 dx (fun y => if y = "value" then some v else none)
/-- a made Low -/
structure OwnMade (h h' : Heap) (e C d : Addr) (v : Value) : Prop where
  keep : ∀ b o, h.get? b = some o → h'.get? b = some o
  new : h.objs.size ≤ e
  obj : ∃ oe vs, h'.get? e = some oe ∧ oe.cls = .ref C ∧ oe.dict = some d ∧ oe.data = .fields vs ∧ vs[1]? = some .none
  dbig : h.objs.size ≤ d
  dne : d ≠ e
  ns : h'.Ns1 d (fun y => if y = "value" then some v else none)
section
variable {cn qn : Str} {prog : Program} {w : World} {A : Around} {E : Value → Shared → Prop} {R : Result → Shared → Prop} {s : Shared} {K : Frag} {mg : Str → Option Value} {C fI : Addr}
theorem low_init (T : LowTxt K mg cn qn C fI) {x t0 : Addr} {v : Value} (X : K.In s.heap) (hlim : s.heap.NoLimit) (hx : s.heap.get? x = some (excO C t0)) (hnx : K.lookup x = none) (hroom : A.depth < recursionLimit)
    (hq : ∀ h' tk dx, InitEnd s.heap h' x C dx t0 v → R (.ok (.ret .none)) { s with heap := h', toks := tk }) :
    codeAny (model prog w) A (.call (.ref fI) ⟨[.ref x, v], []⟩) R s := by
  obtain ⟨oc, od, doc, pm, an, cdv, ct, osl, p1, p2, q1, q2, q3, q4, ho, hcd⟩ := T.fn
  obtain ⟨nm, q, N, bs, bm, sn, sub, ab, col, dd, k0, k1, k2, k3, k5, hC, hbm⟩ := T.cls
  have hcl : clsIn K C = some { name := nm, bases := bs, mro := .ref C :: bm, ns := N, qualname := q, hasDict := true, slotNames := sn, subclasses := sub, abstract := ab, collection := col, hasDel := false } := by unfold clsIn; rw [hC] <;> rfl
  refine Att.call_fn (binds := [("self", .ref x), ("value", v)]) X hlim ho hcd hroom (BindsTo.of_eq (by first | rfl | with_unfolding_all rfl)) (by first | rfl | decide | with_unfolding_all rfl) (fun s₁ IC => ?_) rfl rfl rfl
  obtain ⟨h₁, tk₁, rfl⟩ := IC.toInCall.same
  have k : ∀ b o, s.heap.get? b = some o → h₁.get? b = some o := IC.toInCall.keep
  have hn := IC.toInCall.ns
  have hxL : s.heap.objs.size ≠ x := Nat.ne_of_gt (Heap.lt_size hx)
  have X₁ : K.In h₁ := X.keeps k
  have hx₁ := k _ _ hx
  -- self.value = by
  show wpAny _ _ (execs _ _) _ _ _
  refine wpAny_execs_cons (plainObj_wpAny_Assign_Attribute ?_)
  refine ldC (v := v) hn (by first | rfl | with_unfolding_all rfl | kernel_rfl) (ldC (v := .ref x) hn (by first | rfl | with_unfolding_all rfl | kernel_rfl) ?_)
  refine set_plain X₁ (ox := excO C t0) (od := none) ⟨hx₁, rfl, rfl, trivial⟩ T.sa ?_
  refine exc_osa X₁ hx₁ hcl (show refsVE (.ref C :: bm) = true from hbm) rfl T.noN (fun h₃ tk₃ dx k₃ dn dne hx₃ hn₃ => ?_)
  show wpAny _ _ (execs _ _) _ _ _
  have z : s.heap.objs.size < h₁.objs.size := hn.lt
  exact wpAny_execs_nil (hq h₃ tk₃ dx ⟨fun b o hb e => k₃ b o hb (k b o e), hx₃, Nat.le_of_lt (Nat.lt_of_lt_of_le z dn), dne, hn₃⟩)
theorem low_made (T : LowTxt K mg cn qn C fI) {v : Value} (X : K.In s.heap) (hlim : s.heap.NoLimit) (hroom : A.depth + 1 < recursionLimit)
    (hq : ∀ h' tk e d, OwnMade s.heap h' e C d v → R (.ok (.ret (.ref e))) { s with heap := h', toks := tk }) :
    codeAny (model prog w) A (.call (.ref C) ⟨[v], []⟩) R s := by
  obtain ⟨nm, q, N, bs, bm, sn, sub, ab, col, dd, k0, k1, k2, k3, k5, hC, hbm⟩ := T.cls
  obtain ⟨hp, g, dr, tk, os⟩ := s
  have k : ∀ b o, hp.get? b = some o → ((hp.push (kdv_tup [v])).push (excO C hp.objs.size)).get? b = some o := fun b o e => Heap.get?_push_of_some _ (Heap.get?_push_of_some _ e)
  have hget : ((hp.push (kdv_tup [v])).push (excO C hp.objs.size)).get? (hp.objs.size + 1) = some (excO C hp.objs.size) := by heap_get
  have hnx : K.lookup (hp.objs.size + 1) = none := by
    cases e : K.lookup (hp.objs.size + 1) with
    | none => rfl
    | some o =>
      have z : hp.get? (hp.objs.size + 1) = some o := X _ _ e
      exact absurd (Nat.lt_of_succ_lt (Heap.lt_size z)) (Nat.lt_irrefl _)
  refine call_own F.excBase_ValueError (fun X => refsVE_contains X bm hbm) (X _ _ hC) (looks_findIn X T.iC) (fun self => bind_fn X self T.tC) (one_size v) ?_
  refine low_init (s := ⟨(hp.push (kdv_tup [v])).push (excO C hp.objs.size), g, dr, tk, os⟩) T (X.keeps k) (hlim.keeps k) hget hnx ?_ fun h' tk' dx ⟨k', hx, dn, dne, hns⟩ => ?_
  · show A.depth + 1 < recursionLimit
    exact hroom
  · have old : ∀ b o, hp.get? b = some o → h'.get? b = some o := fun b o e => k' b o (Nat.ne_of_lt (Nat.lt_succ_of_lt (Heap.lt_size e))) (k b o e)
    have z : hp.objs.size + 1 + 1 ≤ dx := by
      first
        | (simpa only [Heap.size_push] using dn)
        | exact dn
        | (have q := dn; rw [Heap.size_push, Heap.size_push] at q; exact q)
    exact ⟨rfl, hq h' tk' (hp.objs.size + 1) dx ⟨old, Nat.le_succ _, ⟨_, _, hx, rfl, rfl, rfl, rfl⟩, Nat.le_trans (Nat.le_trans (Nat.le_succ _) (Nat.le_succ _)) z, dne, hns⟩⟩
end
end LowV
end PySem
namespace L2
namespace LowV
open PySem PySem.Spec PyProof.Rows
theorem relO_low {v : V} {v' : Value} (r : RelV v v') (f : Str) : RelO (List.lookup f [(("value" : Str), v)]) (if f = "value" then some v' else none) := by
  by_cases hw : f = "value"
  · subst hw
    rw [if_pos rfl]
    have q : List.lookup ("value" : Str) [(("value" : Str), v)] = some v := by simp [List.lookup]
    rw [q]
    exact r
  · rw [if_neg hw]
    have qw : (f == ("value" : Str)) = false := by simpa using hw
    have q2 : List.lookup f [(("value" : Str), v)] = none := by simp [List.lookup, qw]
    rw [q2]
    trivial
section
variable {X : Cx} {C fI : Addr} {cn qn : Str}
/-- Low(e) -/
def tMkLow (C : Addr) (ta : TA) : St → Hp → XK → Prop := fun σ H Q => ta σ H fun vs H1 => ∃ v, vs = [v] ∧ ∀ d, H1 d = none → Q (.ref C) (some d) (upd H1 d (.xd [(("value" : Str), v)]))
theorem pmk_low {a : Expr} {ta : TA} {p pos : Pos} {k : Nat} (T : PySem.LowV.LowTxt X.K X.mg cn qn C fI) (hr : Room k X.A) (ha : PA X [a] ta) (hg : Gl X cn := by rfl) (hdb : (cn == ("__debug__" : Str)) = false := by decide)
    (he : starEach (a :: []) X.env = (false, eval a X.env) :: starEach [] X.env := by rfl) (hpl : (backTo pos (starEach [] X.env)).any (·.1) = false := by rfl) :
    PMk X (.Call (.Name cn p) [a] [] pos) (tMkLow C ta) := by
  intro pins s σ H Q I h
  refine wpAny_Call_Name_kw (ld_glob I hg T.gC ?_ hdb)
  refine PySem.W.callWith_K (h₀ := X.base) I.ok.mod.kin T.kC (thn (ha.run pos pins s σ H _ I h) fun us s1 hh => ?_) he hpl
  obtain ⟨vs, H1, I1, r1, v, ev, q1⟩ := hh
  subst ev
  refine ⟨I1.kIn, ?_⟩
  cases r1 with
  | cons rv rn =>
    rename_i v' us'
    cases rn
    show wpAny _ _ (call (.ref C) [v']) _ _ _
    have hlim := I1.nolimit
    obtain ⟨hp, g, dr, tk, os⟩ := s1
    refine wpAny_call (PySem.LowV.low_made T I1.kIn hlim (by have := hr.dp; omega) fun h' tk' e d M => ?_)
    show MkP X pins σ Q (.ref e) ⟨h', g, dr, tk', os⟩
    obtain ⟨oe, fv, hoe, hc, hd, hdat, h1⟩ := M.obj
    have hns := M.ns
    obtain ⟨G', g1, g2⟩ := restrict h' fun b => decide (b ≠ e)
    have gk : ∀ b, b ≠ e → G'.get? b = h'.get? b := fun b hb => g1 b (decide_eq_true hb)
    have ge : G'.get? e = none := g2 e (by simp)
    have old : ∀ b o, hp.get? b = some o → G'.get? b = some o := fun b o q => (gk b (Nat.ne_of_lt (Nat.lt_of_lt_of_le (Heap.lt_size q) M.new))).trans (M.keep b o q)
    have ob : ObjOk X.prog X.w (upd H1 d (.xd [(("value" : Str), v)])) G' d (.xd [(("value" : Str), v)]) :=
      ⟨_, hns.at (fun o q => (gk d M.dne).trans q), fun f => relO_low rv f⟩
    have J : Inv X pins σ (upd H1 d (.xd [(("value" : Str), v)])) ⟨G', g, dr, tk', os⟩ := I1.laid (t' := tk') old M.dbig ob
    refine ⟨e, oe, fv, ⟨G', g, dr, tk', os⟩, _, .ref C, some d, rfl, J, fun b o q => ?_, ge, hoe, ⟨hc, hd⟩, hdat, h1, ?_, rfl, I1.bare, raises_own T.exC T.tyC, q1 d (I1.hok.fresh M.dbig)⟩
    · by_cases hb : b = e
      · have q' : G'.get? b = some o := q
        rw [hb, ge] at q'; cases q'
      · exact (gk b hb).symm.trans q
    · rw [upd_ne (Ne.symm M.dne)]
      exact I1.hok.fresh M.new
/-- raise Low(e) -/
def tRaiseLow (C : Addr) (W : WX) (ta : TA) : TS := fun _ σ H => tMkLow C ta σ H fun cls d H' => W cls d σ H'
theorem ps_raiseLow {a : Expr} {ta : TA} {W : WX} {p pos pos2 : Pos} {k : Nat} (hc : X.calm = true) (T : PySem.LowV.LowTxt X.K X.mg cn qn C fI) (hr : Room k X.A) (tk : Takes X W) (ha : PA X [a] ta) (hg : Gl X cn := by rfl) (hdb : (cn == ("__debug__" : Str)) = false := by decide)
    (he : starEach (a :: []) X.env = (false, eval a X.env) :: starEach [] X.env := by rfl) (hpl : (backTo pos (starEach [] X.env)).any (·.1) = false := by rfl) :
    PS X (.Raise (some (.Call (.Name cn p) [a] [] pos)) none pos2) (tRaiseLow C W ta) := ps_raise hc tk (pmk_low T hr ha hg hdb he hpl)
/-- low.by, low the exception that the suite holds (at a; its class cls, its dict d) -/
def tByLow (C : Addr) (a : Addr) (cls : Value) (d : Option Addr) (te : TE) : TE := fun σ H Q => te σ H fun x H1 => x = .ref a ∧ cls = .ref C ∧ ∃ (dd : Addr) (v : V), d = some dd ∧ H1 dd = some (.xd [(("value" : Str), v)]) ∧ Q v H1
theorem pe_byLow {a : Addr} {oe : Obj} {cls : Value} {d : Option Addr} {pn : List (Addr × Obj)} {e : Expr} {te : TE} {pos : Pos} (T : PySem.LowV.LowTxt X.K X.mg cn qn C fI) (hz : Zc cls d oe) (hf : ∃ vs, oe.data = .fields vs) (he : PE (X.suite a ((a, oe) :: pn)) e te)
    (hb : attributeBase e "value" X.env (eval e X.env) = eval e X.env := by rfl) :
    PE (X.suite a ((a, oe) :: pn)) (.Attribute e "value" pos) (tByLow C a cls d te) := by
  refine ⟨fun pins s σ H Q I h => ?_⟩
  refine attr_of hb (thn (he.run pins s σ H _ I h) fun u s1 hh => ?_)
  obtain ⟨x, H1, I1, rx, ex, ec, dd, v, ed, ea, q⟩ := hh
  subst ex
  obtain rfl : u = Value.ref a := rx
  subst ec
  subst ed
  obtain ⟨ha, _⟩ := I1.pin (a, oe) (List.mem_append_left _ List.mem_cons_self)
  obtain ⟨vs, hd⟩ := hf
  have hx : ObjOk X.prog X.w H1 s1.heap dd (.xd [(("value" : Str), v)]) := I1.hok dd _ ea
  obtain ⟨mA, hns, hr⟩ := hx
  obtain ⟨od, ho, hl⟩ := lookIn_ns hns
  have l : List.lookup ("value" : Str) [(("value" : Str), v)] = some v := by simp [List.lookup]
  obtain ⟨u, hu, ru⟩ := RelO.some_of (v := v) (o := mA "value") (by rw [← l]; exact hr "value")
  have J : PySem.W.InstAt s1.heap a oe C (some od) := ⟨ha, hz.1, by unfold PySem.W.notCls; rw [hd] <;> rfl, by rw [hz.2]; exact ho⟩
  exact HandSPX.exc_get I1.kIn J T.ga T.gg T.exC (PySem.W.findObj_own T.hdC T.noN rfl (by rw [hl, hu])) (handed_of ru) ⟨v, H1, I1.tok _, ru, q⟩
end
end LowV
end L2
namespace PySem
namespace LowL
open PySem.W PySem.Calls PyProof.Rows PySem.HandSPX
/-! ### the text of __init__ -/
def iA (p1 p2 : Pos) : Arguments := { posonlyargs := [], args := [{ arg := "self", annotation := none, pos := p1 }, { arg := "limit", annotation := none, pos := p2 }], vararg := none, kwonlyargs := [], kw_defaults := [], kwarg := none, defaults := [] }
def iB (q1 q2 q3 q4 : Pos) : List Stmt := [.Assign [.Attribute (.Name "self" q1) "limit" q2] (.Name "limit" q3) q4]
def iS : Scope := { kind := .function, names := [(PySem.Str.ofString "self", .local), (PySem.Str.ofString "limit", .local)], isGenerator := false, isCoroutine := false, more := [] }
/-- what the written part says of Low, at C, and of its __init__, at fI -/
structure LowTxt (K : Frag) (mg : Str → Option Value) (cn qn : Str) (C fI : Addr) : Prop where
  gC : mg cn = some (.ref C)
  cls : ∃ nm q N bs bm sn sub ab col dd k0 k1 k2 k3 k5, K.lookup C = some (excClassObj nm q C N bs bm true sn sub ab col dd k0 k1 k2 k3 k5 "ValueError.__new__") ∧ refsVE bm = true
  sa : findIn K (.ref C) "__setattr__" = some (some (.builtin "object.__setattr__"))
  ga : findIn K (.ref C) "__getattribute__" = some (some (.builtin "BaseException.__getattribute__"))
  gg : findIn K (.ref C) "__getattr__" = some none
  noN : findIn K (.ref C) "limit" = some none
  iC : findIn K (.ref C) "__init__" = some (some (.ref fI))
  tC : typeIn K (.ref fI) = some (.type "function")
  kC : keepIn K (.ref C) = true
  exC : subIn K (.ref C) (.type "BaseException") = some true
  tyC : typeIn K (.ref C) = some (.type "type")
  hdC : hasDictIn K C = true
  te : exmOne K (.ref C) (.ref C) = some true
  fn : ∃ (oc : Value) (od : Option Addr) (doc pm : Value) (an : Option Addr) (cdv ct : Value) (osl : Array (Option Value)) (p1 p2 q1 q2 q3 q4 : Pos),
    K.lookup fI = some ⟨oc, od, .func (fnOf "__init__" qn (iA p1 p2) (iB q1 q2 q3 q4) iS .none .none doc pm an cdv ct), osl⟩ ∧ codeIn K cdv qn = true
theorem one_size (v : Value) : [v].length ≤ sizeLine := by
  rw [sizeLine_eq]
  exact (by decide : 1 ≤ 16777216)
theorem kept_but {K : Frag} {h h' : Heap} {x : Addr} (X : K.In h) (hx : K.lookup x = none) (k : ∀ b o, b ≠ x → h.get? b = some o → h'.get? b = some o) : K.In h' := fun a o e =>
  k a o (fun z => by rw [z, hx] at e; cases e) (X a o e)
theorem ldC {M : Model} {s : Shared} {name : Str} {scope : Scope} {L a : Addr} {cd : Value} {m : Str → Option Value} {x : Str} {pos : Pos} {v : Value} {Q : Value → Shared → Prop} {A : Around} {E : Value → Shared → Prop} (hn : s.heap.Ns L m) (hv : m x = some v) (h : Q v s)
    (hk : scope.kind = .function := by rfl) (hl : (envOfC name scope L a cd).kindOf x = some .local := by rfl) (hd : (x == ("__debug__" : Str)) = false := by decide) :
    wpAny M A (eval (.Name x pos) (envOfC name scope L a cd)) Q E s := wpAny_Name (wpAny_loadName_local hk hl hn hv h) hd
/-- what __init__ leaves of a fresh exception at x -/
structure InitEnd (h h' : Heap) (x C dx t1 : Addr) (v : Value) : Prop where
  keep : ∀ b o, b ≠ x → h.get? b = some o → h'.get? b = some o
  obj : h'.get? x = some { cls := .ref C, dict := some dx, data := .fields #[.ref t1, .none, .none, .none, .bool false, .none] }
  dbig : h.objs.size ≤ dx
  dne : dx ≠ x
  ns : h'.Ns1 dx (fun y => if y = "limit" then some v else none)
/-- a made Low -/
structure OwnMade (h h' : Heap) (e C d : Addr) (v : Value) : Prop where
  keep : ∀ b o, h.get? b = some o → h'.get? b = some o
  new : h.objs.size ≤ e
  obj : ∃ oe vs, h'.get? e = some oe ∧ oe.cls = .ref C ∧ oe.dict = some d ∧ oe.data = .fields vs ∧ vs[1]? = some .none
  dbig : h.objs.size ≤ d
  dne : d ≠ e
  ns : h'.Ns1 d (fun y => if y = "limit" then some v else none)
section
variable {cn qn : Str} {prog : Program} {w : World} {A : Around} {E : Value → Shared → Prop} {R : Result → Shared → Prop} {s : Shared} {K : Frag} {mg : Str → Option Value} {C fI : Addr}
theorem low_init (T : LowTxt K mg cn qn C fI) {x t0 : Addr} {v : Value} (X : K.In s.heap) (hlim : s.heap.NoLimit) (hx : s.heap.get? x = some (excO C t0)) (hnx : K.lookup x = none) (hroom : A.depth < recursionLimit)
    (hq : ∀ h' tk dx, InitEnd s.heap h' x C dx t0 v → R (.ok (.ret .none)) { s with heap := h', toks := tk }) :
    codeAny (model prog w) A (.call (.ref fI) ⟨[.ref x, v], []⟩) R s := by
  obtain ⟨oc, od, doc, pm, an, cdv, ct, osl, p1, p2, q1, q2, q3, q4, ho, hcd⟩ := T.fn
  obtain ⟨nm, q, N, bs, bm, sn, sub, ab, col, dd, k0, k1, k2, k3, k5, hC, hbm⟩ := T.cls
  have hcl : clsIn K C = some { name := nm, bases := bs, mro := .ref C :: bm, ns := N, qualname := q, hasDict := true, slotNames := sn, subclasses := sub, abstract := ab, collection := col, hasDel := false } := by unfold clsIn; rw [hC] <;> rfl
  refine Att.call_fn (binds := [("self", .ref x), ("limit", v)]) X hlim ho hcd hroom (BindsTo.of_eq (by first | rfl | with_unfolding_all rfl)) (by first | rfl | decide | with_unfolding_all rfl) (fun s₁ IC => ?_) rfl rfl rfl
  obtain ⟨h₁, tk₁, rfl⟩ := IC.toInCall.same
  have k : ∀ b o, s.heap.get? b = some o → h₁.get? b = some o := IC.toInCall.keep
  have hn := IC.toInCall.ns
  have hxL : s.heap.objs.size ≠ x := Nat.ne_of_gt (Heap.lt_size hx)
  have X₁ : K.In h₁ := X.keeps k
  have hx₁ := k _ _ hx
  -- self.limit = by
  show wpAny _ _ (execs _ _) _ _ _
  refine wpAny_execs_cons (plainObj_wpAny_Assign_Attribute ?_)
  refine ldC (v := v) hn (by first | rfl | with_unfolding_all rfl | kernel_rfl) (ldC (v := .ref x) hn (by first | rfl | with_unfolding_all rfl | kernel_rfl) ?_)
  refine set_plain X₁ (ox := excO C t0) (od := none) ⟨hx₁, rfl, rfl, trivial⟩ T.sa ?_
  refine exc_osa X₁ hx₁ hcl (show refsVE (.ref C :: bm) = true from hbm) rfl T.noN (fun h₃ tk₃ dx k₃ dn dne hx₃ hn₃ => ?_)
  show wpAny _ _ (execs _ _) _ _ _
  have z : s.heap.objs.size < h₁.objs.size := hn.lt
  exact wpAny_execs_nil (hq h₃ tk₃ dx ⟨fun b o hb e => k₃ b o hb (k b o e), hx₃, Nat.le_of_lt (Nat.lt_of_lt_of_le z dn), dne, hn₃⟩)
theorem low_made (T : LowTxt K mg cn qn C fI) {v : Value} (X : K.In s.heap) (hlim : s.heap.NoLimit) (hroom : A.depth + 1 < recursionLimit)
    (hq : ∀ h' tk e d, OwnMade s.heap h' e C d v → R (.ok (.ret (.ref e))) { s with heap := h', toks := tk }) :
    codeAny (model prog w) A (.call (.ref C) ⟨[v], []⟩) R s := by
  obtain ⟨nm, q, N, bs, bm, sn, sub, ab, col, dd, k0, k1, k2, k3, k5, hC, hbm⟩ := T.cls
  obtain ⟨hp, g, dr, tk, os⟩ := s
  have k : ∀ b o, hp.get? b = some o → ((hp.push (kdv_tup [v])).push (excO C hp.objs.size)).get? b = some o := fun b o e => Heap.get?_push_of_some _ (Heap.get?_push_of_some _ e)
  have hget : ((hp.push (kdv_tup [v])).push (excO C hp.objs.size)).get? (hp.objs.size + 1) = some (excO C hp.objs.size) := by heap_get
  have hnx : K.lookup (hp.objs.size + 1) = none := by
    cases e : K.lookup (hp.objs.size + 1) with
    | none => rfl
    | some o =>
      have z : hp.get? (hp.objs.size + 1) = some o := X _ _ e
      exact absurd (Nat.lt_of_succ_lt (Heap.lt_size z)) (Nat.lt_irrefl _)
  refine call_own F.excBase_ValueError (fun X => refsVE_contains X bm hbm) (X _ _ hC) (looks_findIn X T.iC) (fun self => bind_fn X self T.tC) (one_size v) ?_
  refine low_init (s := ⟨(hp.push (kdv_tup [v])).push (excO C hp.objs.size), g, dr, tk, os⟩) T (X.keeps k) (hlim.keeps k) hget hnx ?_ fun h' tk' dx ⟨k', hx, dn, dne, hns⟩ => ?_
  · show A.depth + 1 < recursionLimit
    exact hroom
  · have old : ∀ b o, hp.get? b = some o → h'.get? b = some o := fun b o e => k' b o (Nat.ne_of_lt (Nat.lt_succ_of_lt (Heap.lt_size e))) (k b o e)
    have z : hp.objs.size + 1 + 1 ≤ dx := by
      first
        | (simpa only [Heap.size_push] using dn)
        | exact dn
        | (have q := dn; rw [Heap.size_push, Heap.size_push] at q; exact q)
    exact ⟨rfl, hq h' tk' (hp.objs.size + 1) dx ⟨old, Nat.le_succ _, ⟨_, _, hx, rfl, rfl, rfl, rfl⟩, Nat.le_trans (Nat.le_trans (Nat.le_succ _) (Nat.le_succ _)) z, dne, hns⟩⟩
end
end LowL
end PySem
namespace L2
namespace LowL
open PySem PySem.Spec PyProof.Rows
theorem relO_low {v : V} {v' : Value} (r : RelV v v') (f : Str) : RelO (List.lookup f [(("limit" : Str), v)]) (if f = "limit" then some v' else none) := by
  by_cases hw : f = "limit"
  · subst hw
    rw [if_pos rfl]
    have q : List.lookup ("limit" : Str) [(("limit" : Str), v)] = some v := by simp [List.lookup]
    rw [q]
    exact r
  · rw [if_neg hw]
    have qw : (f == ("limit" : Str)) = false := by simpa using hw
    have q2 : List.lookup f [(("limit" : Str), v)] = none := by simp [List.lookup, qw]
    rw [q2]
    trivial
section
variable {X : Cx} {C fI : Addr} {cn qn : Str}
/-- Low(e) -/
def tMkLow (C : Addr) (ta : TA) : St → Hp → XK → Prop := fun σ H Q => ta σ H fun vs H1 => ∃ v, vs = [v] ∧ ∀ d, H1 d = none → Q (.ref C) (some d) (upd H1 d (.xd [(("limit" : Str), v)]))
theorem pmk_low {a : Expr} {ta : TA} {p pos : Pos} {k : Nat} (T : PySem.LowL.LowTxt X.K X.mg cn qn C fI) (hr : Room k X.A) (ha : PA X [a] ta) (hg : Gl X cn := by rfl) (hdb : (cn == ("__debug__" : Str)) = false := by decide)
    (he : starEach (a :: []) X.env = (false, eval a X.env) :: starEach [] X.env := by rfl) (hpl : (backTo pos (starEach [] X.env)).any (·.1) = false := by rfl) :
    PMk X (.Call (.Name cn p) [a] [] pos) (tMkLow C ta) := by
  intro pins s σ H Q I h
  refine wpAny_Call_Name_kw (ld_glob I hg T.gC ?_ hdb)
  refine PySem.W.callWith_K (h₀ := X.base) I.ok.mod.kin T.kC (thn (ha.run pos pins s σ H _ I h) fun us s1 hh => ?_) he hpl
  obtain ⟨vs, H1, I1, r1, v, ev, q1⟩ := hh
  subst ev
  refine ⟨I1.kIn, ?_⟩
  cases r1 with
  | cons rv rn =>
    rename_i v' us'
    cases rn
    show wpAny _ _ (call (.ref C) [v']) _ _ _
    have hlim := I1.nolimit
    obtain ⟨hp, g, dr, tk, os⟩ := s1
    refine wpAny_call (PySem.LowL.low_made T I1.kIn hlim (by have := hr.dp; omega) fun h' tk' e d M => ?_)
    show MkP X pins σ Q (.ref e) ⟨h', g, dr, tk', os⟩
    obtain ⟨oe, fv, hoe, hc, hd, hdat, h1⟩ := M.obj
    have hns := M.ns
    obtain ⟨G', g1, g2⟩ := restrict h' fun b => decide (b ≠ e)
    have gk : ∀ b, b ≠ e → G'.get? b = h'.get? b := fun b hb => g1 b (decide_eq_true hb)
    have ge : G'.get? e = none := g2 e (by simp)
    have old : ∀ b o, hp.get? b = some o → G'.get? b = some o := fun b o q => (gk b (Nat.ne_of_lt (Nat.lt_of_lt_of_le (Heap.lt_size q) M.new))).trans (M.keep b o q)
    have ob : ObjOk X.prog X.w (upd H1 d (.xd [(("limit" : Str), v)])) G' d (.xd [(("limit" : Str), v)]) :=
      ⟨_, hns.at (fun o q => (gk d M.dne).trans q), fun f => relO_low rv f⟩
    have J : Inv X pins σ (upd H1 d (.xd [(("limit" : Str), v)])) ⟨G', g, dr, tk', os⟩ := I1.laid (t' := tk') old M.dbig ob
    refine ⟨e, oe, fv, ⟨G', g, dr, tk', os⟩, _, .ref C, some d, rfl, J, fun b o q => ?_, ge, hoe, ⟨hc, hd⟩, hdat, h1, ?_, rfl, I1.bare, raises_own T.exC T.tyC, q1 d (I1.hok.fresh M.dbig)⟩
    · by_cases hb : b = e
      · have q' : G'.get? b = some o := q
        rw [hb, ge] at q'; cases q'
      · exact (gk b hb).symm.trans q
    · rw [upd_ne (Ne.symm M.dne)]
      exact I1.hok.fresh M.new
/-- raise Low(e) -/
def tRaiseLow (C : Addr) (W : WX) (ta : TA) : TS := fun _ σ H => tMkLow C ta σ H fun cls d H' => W cls d σ H'
theorem ps_raiseLow {a : Expr} {ta : TA} {W : WX} {p pos pos2 : Pos} {k : Nat} (hc : X.calm = true) (T : PySem.LowL.LowTxt X.K X.mg cn qn C fI) (hr : Room k X.A) (tk : Takes X W) (ha : PA X [a] ta) (hg : Gl X cn := by rfl) (hdb : (cn == ("__debug__" : Str)) = false := by decide)
    (he : starEach (a :: []) X.env = (false, eval a X.env) :: starEach [] X.env := by rfl) (hpl : (backTo pos (starEach [] X.env)).any (·.1) = false := by rfl) :
    PS X (.Raise (some (.Call (.Name cn p) [a] [] pos)) none pos2) (tRaiseLow C W ta) := ps_raise hc tk (pmk_low T hr ha hg hdb he hpl)
/-- low.by, low the exception that the suite holds (at a; its class cls, its dict d) -/
def tByLow (C : Addr) (a : Addr) (cls : Value) (d : Option Addr) (te : TE) : TE := fun σ H Q => te σ H fun x H1 => x = .ref a ∧ cls = .ref C ∧ ∃ (dd : Addr) (v : V), d = some dd ∧ H1 dd = some (.xd [(("limit" : Str), v)]) ∧ Q v H1
theorem pe_byLow {a : Addr} {oe : Obj} {cls : Value} {d : Option Addr} {pn : List (Addr × Obj)} {e : Expr} {te : TE} {pos : Pos} (T : PySem.LowL.LowTxt X.K X.mg cn qn C fI) (hz : Zc cls d oe) (hf : ∃ vs, oe.data = .fields vs) (he : PE (X.suite a ((a, oe) :: pn)) e te)
    (hb : attributeBase e "limit" X.env (eval e X.env) = eval e X.env := by rfl) :
    PE (X.suite a ((a, oe) :: pn)) (.Attribute e "limit" pos) (tByLow C a cls d te) := by
  refine ⟨fun pins s σ H Q I h => ?_⟩
  refine attr_of hb (thn (he.run pins s σ H _ I h) fun u s1 hh => ?_)
  obtain ⟨x, H1, I1, rx, ex, ec, dd, v, ed, ea, q⟩ := hh
  subst ex
  obtain rfl : u = Value.ref a := rx
  subst ec
  subst ed
  obtain ⟨ha, _⟩ := I1.pin (a, oe) (List.mem_append_left _ List.mem_cons_self)
  obtain ⟨vs, hd⟩ := hf
  have hx : ObjOk X.prog X.w H1 s1.heap dd (.xd [(("limit" : Str), v)]) := I1.hok dd _ ea
  obtain ⟨mA, hns, hr⟩ := hx
  obtain ⟨od, ho, hl⟩ := lookIn_ns hns
  have l : List.lookup ("limit" : Str) [(("limit" : Str), v)] = some v := by simp [List.lookup]
  obtain ⟨u, hu, ru⟩ := RelO.some_of (v := v) (o := mA "limit") (by rw [← l]; exact hr "limit")
  have J : PySem.W.InstAt s1.heap a oe C (some od) := ⟨ha, hz.1, by unfold PySem.W.notCls; rw [hd] <;> rfl, by rw [hz.2]; exact ho⟩
  exact HandSPX.exc_get I1.kIn J T.ga T.gg T.exC (PySem.W.findObj_own T.hdC T.noN rfl (by rw [hl, hu])) (handed_of ru) ⟨v, H1, I1.tok _, ru, q⟩
end
end LowL
end L2
set_option Elab.async false
set_option linter.all false
set_option maxRecDepth 100000
set_option maxHeartbeats 4000000
/-! # callees in one word; kinds of data; the drawer's words -/
namespace Xby
open PySem L2
structure Ca (P : Program) (w : World) (K : PySem.W.Frag) (mg : Str → Option Value) (base : Heap) (CX : CXT) (x : Str) (k : Nat) (ps : List Str) (sp : Sp) (f : Addr) (fd : FuncData) : Prop where
  G : FnOk P w K mg base CX k f fd ps sp
  g : mg x = some (.ref f)
  k : PySem.W.keepIn K (.ref f) = true
  B : Binds K fd ps []
/-- what a value is to is_integer_within and its like -/
def okV (lo hi : Int) : V → Bool
  | .int i => decide (lo ≤ i ∧ i ≤ hi)
  | _ => false
theorem Dq.kind {K : PySem.W.Frag} {H : Hp} {v : V} {d : PyData} (h : Dq K H v d) :
    (∃ b, v = .bl b) ∨ (∃ i, v = .int i) ∨ ∃ T : String, TyX K H v (.type T) ∧ (kitB T "bool" = some false ∧ kitB T "int" = some false) ∧ ∀ lo hi, okV lo hi v = false := by
  cases h with
  | non => exact .inr (.inr ⟨_, .base .non, ⟨by decide +kernel, by decide +kernel⟩, fun _ _ => rfl⟩)
  | bl b => exact .inl ⟨b, rfl⟩
  | int i => exact .inr (.inl ⟨i, rfl⟩)
  | str x => exact .inr (.inr ⟨_, .base (.str x), ⟨by decide +kernel, by decide +kernel⟩, fun _ _ => rfl⟩)
  | lst hs _ _ =>
    refine .inr (.inr ⟨"list", ?_, ⟨by decide +kernel, by decide +kernel⟩, fun _ _ => rfl⟩)
    exact .base (.lst hs)
  | tup hs _ =>
    refine .inr (.inr ⟨"tuple", ?_, ⟨by decide +kernel, by decide +kernel⟩, fun _ _ => rfl⟩)
    rcases hs with (hs | ⟨o, hs⟩) | ⟨o, _, _, hk, hc, _⟩
    · exact .base (.tup hs)
    · exact .fTuple hs
    · exact .kTuple hk hc
  | dct hs _ => exact .inr (.inr ⟨"dict", .base (.dK hs), ⟨by decide +kernel, by decide +kernel⟩, fun _ _ => rfl⟩)
theorem kit_bb : kitB "bool" "bool" = some true := by decide +kernel
theorem kit_ib : kitB "int" "bool" = some false := by decide +kernel
theorem kit_ii : kitB "int" "int" = some true := by decide +kernel
theorem kit_bi : kitB "bool" "int" = some true := by decide +kernel
/-! ## the drawer -/
def Pot (H : Hp) (p : Addr) (n : Nat) : Prop := ∃ a m c : Int, H p = some (.lst [.int a, .int m, .int c]) ∧ (0 ≤ a ∧ a.natAbs < 2 ^ 1000) ∧ (0 ≤ m ∧ m < 2305843009213693921) ∧ (0 ≤ c ∧ c ≤ n)
theorem Pot.more {H : Hp} {p : Addr} {n m : Nat} (h : Pot H p n) (l : n ≤ m) : Pot H p m := by
  obtain ⟨a, b, c, e, h1, h2, h3, h4⟩ := h
  exact ⟨a, b, c, e, h1, h2, h3, by omega⟩
/-- all but p is as it was -/
def But (p : Addr) (H H' : Hp) : Prop := ∀ b o, b ≠ p → H b = some o → H' b = some o
theorem But.refl (p : Addr) (H : Hp) : But p H H := fun _ _ _ e => e
theorem But.trans {p : Addr} {H H1 H2 : Hp} (a : But p H H1) (b : But p H1 H2) : But p H H2 := fun c o n e => b c o n (a c o n e)
theorem But.of {p : Addr} {H H' : Hp} (a : Same H H') : But p H H' := fun c o _ e => a c o e
theorem But.upd {p : Addr} {H H' : Hp} {o : HO} (a : But p H H') : But p H (upd H' p o) := fun c u n e => by rw [upd_ne n]; exact a c u n e
theorem Same.upd {H H' : Hp} {p : Addr} {o : HO} (a : Same H H') (n : H' p = none) : Same H (upd H' p o) := fun c u e => by
  have e' := a c u e
  rw [upd_ne (ne_of_none e' n)]
  exact e'
theorem But.new {q : Addr} {H H' : Hp} {p : Addr} {o : HO} (a : But q H H') (n : H' p = none) : But q H (L2.upd H' p o) := fun c u m e => by
  have e' := a c u m e
  rw [upd_ne (ne_of_none e' n)]
  exact e'
def spDraw : Sp := fun vs H Q _ => ∃ (p : Addr) (many : Int) (n : Nat), vs = [.ref p, .int many] ∧ (0 < many ∧ many < 1000) ∧ n ≤ 1000000 ∧ Pot H p n ∧
  ∀ r H', 0 ≤ r → r < many → Pot H' p (n + 1) → But p H H' → Q (.int r) H'
/-- an item of the list -/
def spAny : Sp := fun vs H Q _ => ∃ (p l : Addr) (xs : List V) (n : Nat), vs = [.ref p, .ref l] ∧ H l = some (.lst xs) ∧ l ≠ p ∧ (0 < xs.length ∧ xs.length < 1000) ∧ n ≤ 1000000 ∧ Pot H p n ∧
  ∀ x H', x ∈ xs → Pot H' p (n + 1) → But p H H' → Q x H'
/-- the drawer of a cell -/
def spPot (K : PySem.W.Frag) : Sp := fun vs H Q _ => ∃ (a : Addr) (ns : List Int) (k : Int), vs = [.ref a, .int k] ∧ SqL K H a (ns.map V.int) ∧ ns.length ≤ 63 ∧ (0 ≤ k ∧ k < 3) ∧
  ∀ p H', H p = none → Same H H' → Pot H' p 0 → Q (.ref p) H'
theorem Pot.ne {H : Hp} {p l : Addr} {n : Nat} (h : Pot H p n) (nl : H l = none) : p ≠ l := by
  obtain ⟨_, _, _, e, _⟩ := h
  exact ne_of_none e nl
theorem Pot.upd {H : Hp} {p l : Addr} {n : Nat} {o : HO} (h : Pot H p n) (ne : p ≠ l) : Pot (upd H l o) p n := by
  obtain ⟨a, m, c, e, r⟩ := h
  exact ⟨a, m, c, by rw [upd_ne ne]; exact e, r⟩
theorem Pot.new {H : Hp} {p l : Addr} {n : Nat} {o : HO} (h : Pot H p n) (nl : H l = none) : Pot (L2.upd H l o) p n := h.upd (h.ne nl)
theorem Pot.same {H H' : Hp} {p : Addr} {n : Nat} (h : Pot H p n) (s : Same H H') : Pot H' p n := by
  obtain ⟨a, m, c, e, r⟩ := h
  exact ⟨a, m, c, s _ _ e, r⟩
theorem But.updN {H H' : Hp} {p D : Addr} {o : HO} (b : But p H H') (n : H D = none) : But p H (L2.upd H' D o) := fun c u m e => by
  rw [upd_ne (ne_of_none e n)]
  exact b c u m e
theorem Same.updN {H H' : Hp} {D : Addr} {o : HO} (b : Same H H') (n : H D = none) : Same H (L2.upd H' D o) := fun c u e => by
  rw [upd_ne (ne_of_none e n)]
  exact b c u e
theorem Same.both {G H : Hp} {t : Addr} {o : HO} (s : Same G H) : Same (L2.upd G t o) (L2.upd H t o) := fun c u e => by
  by_cases h : c = t
  · subst h
    rw [upd_same] at e ⊢
    exact e
  · rw [upd_ne h] at e ⊢
    exact s c u e
theorem Same.but {G H H' : Hp} {p : Addr} (s : Same G H) (b : But p H H') (n : G p = none) : Same G H' := fun c u e => b c u (ne_of_none e n) (s c u e)
theorem But.same {p : Addr} {H H1 H2 : Hp} (a : But p H H1) (s : Same H1 H2) : But p H H2 := a.trans (But.of s)
theorem Same.one {H : Hp} {l : Addr} {o : HO} (n : H l = none) : Same H (L2.upd H l o) := Same.upd (Same.refl H) n
theorem Dq.list {K : PySem.W.Frag} {H : Hp} : ∀ {vs : List V}, (∀ v ∈ vs, ∃ d, Dq K H v d) → ∃ ds, DqAll K H vs ds
  | [], _ => ⟨[], .nil⟩
  | v :: vs, h => by
    obtain ⟨d, hd⟩ := h v (List.mem_cons_self ..)
    obtain ⟨ds, hds⟩ := Dq.list (vs := vs) fun u hu => h u (List.mem_cons_of_mem _ hu)
    exact ⟨d :: ds, .cons hd hds⟩
/-! ## small data -/
structure Sz (w k : Nat) (d : PyData) : Prop where
  lv : d.leavesShort 40 = true
  wt : d.weight ≤ w
  dp : d.depth ≤ k
  sh : d.showable = true
instance (w k : Nat) (d : PyData) : Decidable (Sz w k d) :=
  if h : d.leavesShort 40 = true ∧ d.weight ≤ w ∧ d.depth ≤ k ∧ d.showable = true then isTrue ⟨h.1, h.2.1, h.2.2.1, h.2.2.2⟩ else isFalse fun z => h ⟨z.lv, z.wt, z.dp, z.sh⟩
theorem Sz.more {w w' k k' : Nat} {d : PyData} (h : Sz w k d) (hw : w ≤ w') (hk : k ≤ k') : Sz w' k' d := ⟨h.lv, Nat.le_trans h.wt hw, Nat.le_trans h.dp hk, h.sh⟩
theorem Sz.fine {w k : Nat} {d : PyData} (h : Sz w k d) (hw : w ≤ 200000) (hk : k ≤ 60) : Fine d := by
  refine ⟨h.sh, ?_, Nat.le_trans h.dp hk⟩
  have a := PyData.shown_le 40 (by decide) d h.lv
  have b : (40 + 2) * d.weight ≤ (40 + 2) * 200000 := Nat.mul_le_mul_left _ (Nat.le_trans h.wt hw)
  rw [sizeLine_eq]
  omega
theorem Sz.all {w k : Nat} : ∀ {ds : List PyData}, (∀ d ∈ ds, Sz w k d) → PyData.leavesShortAll 40 ds = true ∧ PyData.weightAll ds ≤ (w + 1) * ds.length ∧ PyData.depthAll ds ≤ k ∧ PyData.showableAll ds = true
  | [], _ => ⟨rfl, Nat.zero_le _, Nat.zero_le _, rfl⟩
  | d :: ds, h => by
    have a := h d (List.mem_cons_self ..)
    obtain ⟨b1, b2, b3, b4⟩ := Sz.all (ds := ds) fun e he => h e (List.mem_cons_of_mem _ he)
    refine ⟨?_, ?_, ?_, ?_⟩
    · simp only [PyData.leavesShortAll, a.lv, b1, Bool.and_self]
    · simp only [PyData.weightAll, List.length_cons, Nat.mul_add, Nat.mul_one]
      have := a.wt
      omega
    · simp only [PyData.depthAll]
      exact Nat.max_le.mpr ⟨a.dp, b3⟩
    · simp only [PyData.showableAll, a.sh, b4, Bool.and_self]
theorem Sz.list {w k : Nat} {ds : List PyData} (h : ∀ d ∈ ds, Sz w k d) : Sz ((w + 1) * ds.length) (k + 1) (.list ds) := by
  obtain ⟨a, b, c, d⟩ := Sz.all h
  exact ⟨by simpa only [PyData.leavesShort] using a, by simpa only [PyData.weight] using b, by simp only [PyData.depth]; omega, by simpa only [PyData.showable] using d⟩
theorem Sz.tup {w k : Nat} {ds : List PyData} (h : ∀ d ∈ ds, Sz w k d) : Sz ((w + 1) * ds.length) (k + 1) (.tuple ds) := by
  obtain ⟨a, b, c, d⟩ := Sz.all h
  exact ⟨by simpa only [PyData.leavesShort] using a, by simpa only [PyData.weight] using b, by simp only [PyData.depth]; omega, by simpa only [PyData.showable] using d⟩
theorem small50 : ∀ m : Nat, m < 51 → Sz 40 0 (.int m) := by decide +kernel
theorem Sz.int50 {m : Int} (h0 : 0 ≤ m) (h1 : m ≤ 50) : Sz 40 0 (.int m) := by
  obtain ⟨n, rfl⟩ := Int.eq_ofNat_of_zero_le h0
  exact small50 n (by omega)
/-- values that stand in the fixed part G, with small data -/
def Gd (K : PySem.W.Frag) (w k : Nat) (G : Hp) (v : V) : Prop := ∃ d, Dq K G v d ∧ Sz w k d
theorem Gd.same {K : PySem.W.Frag} {w k : Nat} {G G' : Hp} {v : V} (s : Same G G') (h : Gd K w k G v) : Gd K w k G' v := by
  obtain ⟨d, a, b⟩ := h
  exact ⟨d, a.same s, b⟩
theorem Gd.list {K : PySem.W.Frag} {w k : Nat} {G : Hp} : ∀ {vs : List V}, (∀ v ∈ vs, Gd K w k G v) → ∃ ds, DqAll K G vs ds ∧ (∀ d ∈ ds, Sz w k d) ∧ ds.length = vs.length
  | [], _ => ⟨[], .nil, by simp, rfl⟩
  | v :: vs, h => by
    obtain ⟨d, hd, sd⟩ := h v (List.mem_cons_self ..)
    obtain ⟨ds, hds, sds, l⟩ := Gd.list (vs := vs) fun u hu => h u (List.mem_cons_of_mem _ hu)
    refine ⟨d :: ds, .cons hd hds, fun e he => ?_, by simp [l]⟩
    rcases List.mem_cons.mp he with rfl | he
    · exact sd
    · exact sds e he
/-! ## classes -/
theorem kit_own {K : PySem.W.Frag} {C : Addr} {T : String} {b : Bool} (ic : PySem.W.isClsIn K C = true) (ty : PySem.W.typeIn K (.ref C) = some (.type "type")) (sb : PySem.W.subIn K (.type T) (.ref C) = some b) : PySem.W.kitOne K (.type T) (.ref C) = some b := by
  have ic' : (PySem.W.clsIn K C).isSome = true := ic
  unfold PySem.W.kitOne PySem.W.kitCls
  rw [if_neg (by simp)]
  simp only [ic', ty]
  exact sb
theorem nf_own {K : PySem.W.Frag} {C : Addr} {T : String} (sb : PySem.W.subIn K (.type T) (.ref C) = some false) : PySem.W.notFirst K C (.type T) = true := by
  unfold PySem.W.notFirst
  rw [sb]
  simp
theorem exm_of {K : PySem.W.Frag} {A B : Addr} {b : Bool} (ex : PySem.W.subIn K (.ref B) (.type "BaseException") = some true) (ic : PySem.W.isClsIn K B = true) (ty : PySem.W.typeIn K (.ref B) = some (.type "type")) (sb : PySem.W.subIn K (.ref A) (.ref B) = some b) :
    PySem.W.exmOne K (.ref A) (.ref B) = some b := by
  have ic' : (PySem.W.clsIn K B).isSome = true := ic
  unfold PySem.W.exmOne PySem.W.kitCls
  rw [ex]
  simp only [ic', ty]
  exact sb
end Xby

set_option Elab.async false
set_option linter.all false
set_option maxRecDepth 100000
set_option maxHeartbeats 4000000
/-! # len(set(t)), t a tuple of any texts -/
namespace Xby
open PySem PySem.Spec PyProof.Rows
/-- how many different ones stand among the first i -/
def news (ys : List Str) : Nat → Nat
  | 0 => 0
  | i + 1 => if (ys.take i).any (· == ys.getD i Str.empty) then news ys i else news ys i + 1
theorem news_le (ys : List Str) : ∀ i, news ys i ≤ i
  | 0 => Nat.le_refl _
  | i + 1 => by
    have := news_le ys i
    unfold news
    split <;> omega
theorem news_all {ys : List Str} : ∀ {i : Nat}, i ≤ ys.length → (news ys i = i ↔ (ys.take i).Nodup)
  | 0, _ => by simp [news]
  | i + 1, h => by
    have hi : i < ys.length := h
    have ih := news_all (ys := ys) (i := i) (by omega)
    have le := news_le ys i
    have e1 : ys.getD i Str.empty = ys[i] := by simp [hi]
    have e2 : ys.take (i + 1) = ys.take i ++ [ys[i]] := by rw [List.take_succ, List.getElem?_eq_getElem hi]; rfl
    rw [e2, List.nodup_append]
    unfold news
    rw [e1]
    by_cases c : (ys.take i).any (· == ys[i]) = true
    · rw [if_pos c]
      obtain ⟨y, hy, he⟩ := List.any_eq_true.mp c
      obtain rfl : y = ys[i] := by simpa using he
      refine ⟨fun z => by omega, fun z => ?_⟩
      exact absurd rfl (z.2.2 _ hy _ (by simp))
    · rw [if_neg c]
      refine ⟨fun z => ⟨ih.mp (by omega), by simp, fun a ha b hb => ?_⟩, fun z => by rw [ih.mpr z.1]⟩
      obtain rfl : b = ys[i] := by simpa using hb
      intro q
      exact c (List.any_eq_true.mpr ⟨a, ha, by simpa using q⟩)
section
variable {prog : Program} {w : World} {A : Around} {R : Result → Shared → Prop} {it : Addr} {fp wr : List Addr} {G : Array GenState → Array GenState → Prop} {n : Nat} {P : Nat → Value → Prop} {St : Nat → Shared → Prop}
theorem fillTexts (W : WalksS prog w A.in1 it fp wr G n P St) (c : Addr) (nc : c ∉ fp) (ys : List Str) (len : ys.length = n) (few : n + 1 < scanBound) (its : ∀ i v, P i v → ∃ t, v = .str (ys.getD i Str.empty) t) :
    ∀ (m i : Nat) (s : Shared), n - i = m → i ≤ n → St i s → s.heap.SetOf (strKind prog w) c (fun y => (ys.take i).any (· == y)) (news ys i) →
      (∀ s1, Moved (c :: wr) G s s1 → s1.heap.SetOf (strKind prog w) c (fun y => (ys.take n).any (· == y)) (news ys n) → R (.ok (.ret .none)) s1) →
      codeAny (model prog w) A (.builtin "set.update.loop" ⟨[.ref c, .ref it], []⟩) R s := by
  have ncw : c ∉ wr := fun z => nc (W.sub _ z)
  have more : ∀ b ∈ wr, b ∈ c :: wr := fun b => List.mem_cons_of_mem _
  have kept : ∀ {s s1 : Shared} {T : Str → Bool} {k : Nat}, Moved wr G s s1 → s.heap.SetOf (strKind prog w) c T k → s1.heap.SetOf (strKind prog w) c T k := by
    rintro s s1 T k mv ⟨o, es, ep, t, g, rest⟩
    exact ⟨o, es, ep, t, mv.heap c _ ncw g, rest⟩
  intro m
  induction m with
  | zero =>
    intro i s hm hi st so fin
    obtain rfl : i = n := by omega
    refine codeAny_builtin F.entry_set_update_loop ?_
    rw [Around.under_plainId F.plain_set_update_loop _]
    change wpAny _ A.in1 (pyNext (.ref it) >>= _) _ _ s
    refine wpAny_bind (W.done s _ _ st fun s1 mv => ?_)
    change wpAny _ A.in1 (ret Value.none) _ _ s1
    exact wpAny_pure (fin s1 (mv.mono more) (kept mv so))
  | succ m ih =>
    intro i s hm hi st so fin
    have lt : i < n := by omega
    refine codeAny_builtin F.entry_set_update_loop ?_
    rw [Around.under_plainId F.plain_set_update_loop _]
    change wpAny _ A.in1 (pyNext (.ref it) >>= _) _ _ s
    refine wpAny_bind (W.item i s _ _ lt st fun v s1 pv st1 mv => ?_)
    obtain ⟨t, rfl⟩ := its i v pv
    have so1 := kept mv so
    change wpAny _ A.in1 (holding [Value.str (ys.getD i Str.empty) t] (setAdd c (.str (ys.getD i Str.empty) t)) >>= _) _ _ s1
    refine wpAny_bind (wpAny_holding ?_)
    unfold setAdd
    refine wpAny_holding ?_
    refine wpAny_bind ((strKind prog w).pyHash (k := ys.getD i Str.empty) (strKind_is _ _ _ _) ?_)
    have le := news_le ys i
    refine wpAny_setAddHashed_of (knd := strKind prog w) (s := { s1 with toks := s1.toks + 1 }) (strKind_is _ _ _ _) rfl so1 (by omega) fun h2 sb so2 => ?_
    have so3 : h2.SetOf (strKind prog w) c (fun y => (ys.take (i + 1)).any (· == y)) (news ys (i + 1)) := by
      refine SetOf_congr so2 (fun y => ?_) rfl
      have hi' : i < ys.length := by omega
      have e1 : ys.getD i Str.empty = ys[i] := by simp [hi']
      show ((ys.take i).any (· == y) || decide (y = ys.getD i Str.empty)) = _
      rw [List.take_succ, List.getElem?_eq_getElem hi', e1, List.any_append]
      congr 1
      by_cases e : y = ys[i]
      · subst e; simp
      · have e' : (ys[i] == y) = false := by simpa using fun z : ys[i] = y => e z.symm
        simp [e', e]
    refine wpAny_pure ⟨plainId_quiet F.plain_set_update_loop _, ih (i + 1) _ (by omega) lt (W.frame _ s1 _ _ st1 (Nat.le_succ _) fun b hb o e => ?_) so3 fun s3 mv3 so4 => ?_⟩
    · rw [sb.2 b fun z => nc (z ▸ hb)]
      exact e
    · refine fin s3 (Moved.trans W.gtrans ((mv.mono more).then_heap (Nat.le_succ _) fun b o hb e => ?_) mv3) so4
      rw [sb.2 b fun z => hb (z ▸ List.mem_cons_self)]
      exact e
end
section
variable {prog : Program} {w : World} {A : Around} {E : Value → Shared → Prop} {s : Shared}
/-- the new set -/
abbrev emptySet (led : Bool) : Obj := { cls := .type "set", dict := none, data := .set #[] 0 (.fresh 0 0 led) }
set_option maxHeartbeats 3200000 in
theorem set_of_texts {l : Addr} {us : Array Value} {ys : List Str} {Q : Value → Shared → Prop} (hh : A.handled = none) (hl : s.heap.IsTuple l us) (hi : StrsAre us.toList ys) (few : us.size + 1 < scanBound)
    (q : ∀ (h2 : Heap) (tk : Nat), h2.SetOf (strKind prog w) s.heap.objs.size (fun y => (ys.take us.size).any (· == y)) (news ys us.size) → (∀ b o, b < s.heap.objs.size → s.heap.get? b = some o → h2.get? b = some o) → Q (.ref s.heap.objs.size) { s with heap := h2, toks := tk }) :
    wpAny (model prog w) A (call (.type "set") [.ref l]) Q E s := by
  obtain ⟨cc, tl, mro⟩ := PySem.F.called_set.mro
  have made := PySem.F.called_set.made
  have sub := PySem.F.called_set.sub
  have nt := PySem.F.called_set.notType
  have cr := PySem.F.called_set.canCreate
  have ct := PySem.F.typeCall_set_1 (.ref l)
  refine wpAny_call (codeAny_of_tree ?_)
  change wpAny _ _ (callAny (.type "set") _) _ _ _
  refine wpAny_pure ⟨Code.quiet_builtin _ (by decide +kernel), codeAny_builtin PySem.F.entry_type_call ?_⟩
  rw [Around.under_plain (weight_type_call_type "set" [.ref l] []) rfl]
  repeat (any_goals (first | assumption | wp_step))
  refine codeAny_mono (code_set_new_1 (.ref l) (E := E) (Q₁ := fun u s1 => ∃ led : Bool, u = .ref s.heap.objs.size ∧ s1 = { s with heap := s.heap.push (emptySet led) }) fun led => ⟨led, rfl, rfl⟩) fun r s1 hr => ?_
  cases r with
  | error e => exact hr
  | ok fl =>
    cases fl with
    | ret u =>
      obtain ⟨led, rfl, rfl⟩ := hr
      have new : (s.heap.push (emptySet led)).get? s.heap.objs.size = some (emptySet led) := Heap.get?_push_size _ rfl
      have ty : Shared.TypeIs { s with heap := s.heap.push (emptySet led) } (.ref s.heap.objs.size) "set" := ⟨_, new, rfl⟩
      have lk := PySem.F.called_set.init.lookup
      have bd := PySem.F.called_set.init.bind (.ref s.heap.objs.size)
      repeat (any_goals (first | assumption | wp_step))
      refine codeAny_mono (codeAny_call_builtin (R := wants (fun r s2 => r = .none ∧ ∃ h2 tk, s2 = { s with heap := h2, toks := tk } ∧ h2.SetOf (strKind prog w) s.heap.objs.size (fun y => (ys.take us.size).any (· == y)) (news ys us.size) ∧
        (∀ b o, b < s.heap.objs.size → s.heap.get? b = some o → h2.get? b = some o)) E) PySem.F.called_set.init.plain PySem.F.entry_set_init (check_set_init_1 ty ?_)) fun r2 s2 hr2 => ?_
      · obtain ⟨⟨tc, td, tdata, tsl⟩, g, hc, nl, hd⟩ := hl
        simp only at hc hd
        subst hc hd
        have ls : l < s.heap.objs.size := Heap.lt_size g
        have g1 : (s.heap.push (emptySet led)).get? l = some { cls := .type "tuple", dict := td, data := .seq us nl, slots := tsl } := Heap.get?_push_of_some _ g
        have st := PySem.F.sub_tuple_set
        have sf := PySem.F.sub_tuple_frozenset
        have nd : (Value.type "tuple" == Value.type "dict") = false := by decide
        have tup1 : (s.heap.push (emptySet led)).IsTuple l us := ⟨_, g1, rfl, nl, rfl⟩
        unfold Builtin.«set.__init__» noKeywords Builtin.Frozenset.updateFrom
        generalize e : pyIter = it
        wp_walk
        subst e
        refine wpAny_pyIter_tuple tup1 (wpAny_bind (wpAny_runValue ?_))
        have h3 : A.in1.in1.in1.handled = none := by simp [hh]
        have ne : l ≠ (s.heap.push (emptySet led)).objs.size := by
          rw [Heap.size_push]
          exact Nat.ne_of_lt (Nat.lt_succ_of_lt ls)
        have nf : s.heap.objs.size ∉ [(s.heap.push (emptySet led)).objs.size, l] := by
          rw [Heap.size_push]
          simp only [List.mem_cons, List.not_mem_nil, or_false, not_or]
          exact ⟨Nat.ne_of_lt (Nat.lt_succ_self _), Nat.ne_of_gt ls⟩
        have len : ys.length = us.size := by rw [← StrsAre.len_eq hi, Array.length_toList]
        refine fillTexts ((Walks.tuple h3 _ l ne us).toS) s.heap.objs.size nf ys len few (fun i v hv => SS.strs_at hi i v (by rw [Array.getElem?_toList]; exact hv)) (us.size - 0) 0 _ (by omega) (Nat.zero_le _) ⟨⟨_, Heap.get?_push_size _ rfl, rfl, rfl⟩, tup1.push _⟩ ?_ ?_
        · have g2 : ((s.heap.push (emptySet led)).push { cls := .type "tuple_iterator", data := .fields #[.ref l, .int 0 0] }).get? s.heap.objs.size = some (emptySet led) := Heap.get?_push_of_some _ new
          exact SetOf_congr ((setObjOf_fresh (knd := strKind prog w) led).setOf g2 (by unfold scanBound; omega)) (fun _ => rfl) rfl
        · rintro ⟨h2, g2, d2, t2, o2⟩ mv so
          obtain rfl : g2 = s.gens := mv.gens
          obtain rfl : d2 = s.drawn := mv.drawn
          obtain rfl : o2 = s.os := mv.os
          change wpAny _ _ _ _ _ _
          refine wpAny_pure ?_
          change wpAny _ _ (ret Value.none) _ _ _
          refine wpAny_pure ⟨rfl, h2, t2, rfl, so, fun b o hb e => ?_⟩
          refine mv.heap b o ?_ (Heap.get?_push_of_some _ (Heap.get?_push_of_some _ e))
          rw [Heap.size_push]
          simp only [List.mem_cons, List.not_mem_nil, or_false, not_or]
          exact ⟨Nat.ne_of_lt hb, Nat.ne_of_lt (Nat.lt_succ_of_lt hb)⟩
      · cases r2 with
        | error e => exact hr2
        | ok fl2 =>
          cases fl2 with
          | ret r =>
            obtain ⟨rfl, h2, tk, rfl, so, k⟩ := hr2
            repeat (any_goals (first | assumption | wp_step))
            exact q _ _ so k
          | _ => exact hr2.elim
    | _ => exact hr.elim
end
end Xby
namespace Xby
open PySem PySem.Spec PyProof.Rows L2
section
variable {X : Cx}
/-- len(set(t)) -/
def tLenSetT (K : PySem.W.Frag) (ta : TE) : TE := fun σ H Q => ta σ H fun x H1 => ∃ (l : Addr) (ys : List Str), x = .ref l ∧ SqT K H1 l (ys.map V.str) ∧ ys.length ≤ 60 ∧ Q (.int (news ys ys.length)) H1
theorem pe_lenSetT {a : Expr} {ta : TE} {p p2 q pos : Pos} (hc : X.calm = true) (hg : Gl X "len") (hm : X.mg "len" = none) (hg2 : Gl X "set") (hm2 : X.mg "set" = none) (ha : PE X a ta)
    (na : starEach [a] X.env = (false, eval a X.env) :: starEach [] X.env := by rfl) : PE X (.Call (.Name "len" p) [.Call (.Name "set" p2) [a] [] q] [] pos) (tLenSetT X.K ta) := by
  constructor
  intro pins s σ H Q I h
  refine Call_ (ld_blt I hg hm boot_len (callWith_builtin1 (args_cons (Call_ (ld_blt I hg2 hm2 boot_set ?_)) rfl) rfl rfl))
  refine callWith_type1 (args_cons (thn (ha.run pins s σ H _ I h) fun v s1 ⟨x, H1, I1, r1, q1⟩ => args_nil ?_) na) na rfl
  obtain ⟨l, ys, rfl, hq, few, q1⟩ := q1
  cases r1
  obtain ⟨its, r, pl, _⟩ := I1.tuple hq
  have len : its.toArray.size = ys.length := by rw [List.size_toArray, ← r.length, List.length_map]
  have fits : its.toArray.size + 1 < scanBound := by
    rw [len]
    unfold scanBound
    omega
  refine set_of_texts (I1.ok.hd hc) pl (by simpa using strsAre_of r) fits fun h2 tk so k => ?_
  rw [len] at so
  refine args_nil ?_
  obtain ⟨o, es, ep, t, ho, ex, hd, _, _, _, hf, hn⟩ := so
  have I2 : Inv X pins σ H1 { s1 with heap := h2, toks := tk } := I1.kept fun b o e => k b o (Heap.lt_size e) e
  have le := news_le ys ys.length
  refine call_len_set ho ex hd hf (by rw [hn]; omega) ⟨.int (news ys ys.length), H1, I2.tok _, ⟨_, by rw [hn]⟩, q1⟩
theorem pe_lenSetTK (K : PySem.W.Frag) (hK : X.K = K) {a : Expr} {ta : TE} {p p2 q pos : Pos} (hc : X.calm = true) (hg : Gl X "len") (hm : X.mg "len" = none) (hg2 : Gl X "set") (hm2 : X.mg "set" = none) (ha : PE X a ta)
    (na : starEach [a] X.env = (false, eval a X.env) :: starEach [] X.env := by rfl) : PE X (.Call (.Name "len" p) [.Call (.Name "set" p2) [a] [] q] [] pos) (tLenSetT K ta) := by
  subst hK
  exact pe_lenSetT hc hg hm hg2 hm2 ha na
end
end Xby

set_option Elab.async false
set_option linter.all false
set_option maxRecDepth 100000
set_option maxHeartbeats 4000000
/-! # t[::-1], t a tuple -/
namespace Xby
open PySem PySem.Spec PyProof.Rows HT
section
variable {prog : Program} {w : World} {A : Around} {E : Value → Shared → Prop} {s : Shared}
theorem back_adjust (n : Nat) : Builtin.Slice.sliceAdjust none none (-1) (n : Int) = ((n : Int) - 1, -1) := by
  unfold Builtin.Slice.sliceAdjust
  simp
theorem back_places (n : Nat) : Builtin.Slice.slicePlaces ((n : Int) - 1) (-1) (-1) = n := by
  unfold Builtin.Slice.slicePlaces
  rw [if_neg (by decide)]
  by_cases h : (n : Int) - 1 > -1
  · rw [if_pos h]
    have : ((n : Int) - 1 - -1 - 1) / (- -1) = (n : Int) - 1 := by
      rw [show (- -1 : Int) = 1 by decide, Int.ediv_one]
      omega
    rw [this]
    omega
  · rw [if_neg h]
    omega
theorem back_applied {sl : Addr} {vl vu vs : Value} {n : Nat} {Q : Int × Int × Nat → Shared → Prop} (hs : s.heap.IsSliceOf sl vl vu vs) (pl : IsPart vl none) (pu : IsPart vu none) (ps : IsPart vs (some (-1)))
    (q : Q ((n : Int) - 1, -1, n) s) : wpAny (model prog w) A (Builtin.Slice.sliceApplied (.ref sl) (pure (n : Int))) Q E s := by
  obtain ⟨o, g, c, d⟩ := hs
  unfold Builtin.Slice.sliceApplied Builtin.Slice.sliceFields
  refine wpAny_bind (wpAny_bind (wpAny_field g d (x := vl) rfl (wpAny_bind (wpAny_field g d (x := vu) rfl (wpAny_bind (wpAny_field g d (x := vs) rfl (wpAny_pure ?_)))))))
  refine wpAny_bind (slicePart_ ps ?_)
  change wpAny _ _ (if ((-1 : Int) == 0) = true then _ else _) _ _ s
  rw [if_neg (by decide)]
  refine wpAny_bind (slicePart_ pl (wpAny_bind (slicePart_ pu (wpAny_bind (wpAny_pure ?_)))))
  change wpAny _ _ (match Builtin.Slice.sliceAdjust none none (-1) (n : Int) with | (lo, hi) => pure (lo, (-1 : Int), Builtin.Slice.slicePlaces lo hi (-1))) _ _ s
  rw [back_adjust]
  change wpAny _ _ (pure ((n : Int) - 1, (-1 : Int), Builtin.Slice.slicePlaces ((n : Int) - 1) (-1) (-1))) _ _ s
  rw [back_places]
  exact wpAny_pure q
theorem fm_congr {α β : Type} {f g : α → Option β} : ∀ {l : List α}, (∀ x ∈ l, f x = g x) → l.filterMap f = l.filterMap g
  | [], _ => rfl
  | x :: xs, h => by
    rw [List.filterMap_cons, List.filterMap_cons, h x List.mem_cons_self, fm_congr fun y hy => h y (List.mem_cons_of_mem _ hy)]
theorem back_items (us : Array Value) : ((List.range us.size).filterMap fun (k : Nat) => us[((us.size : Int) - 1 + (k : Int) * (-1)).toNat]?).toArray = us.toList.reverse.toArray := by
  have e : ((List.range us.size).filterMap fun (k : Nat) => us[((us.size : Int) - 1 + (k : Int) * (-1)).toNat]?) = (List.range us.size).filterMap ((us[·]?) ∘ fun k => us.size - 1 - k) := by
    refine fm_congr fun k hk => ?_
    have := List.mem_range.mp hk
    have : ((us.size : Int) - 1 + (k : Int) * (-1)).toNat = us.size - 1 - k := by omega
    show us[((us.size : Int) - 1 + (k : Int) * (-1)).toNat]? = us[us.size - 1 - k]?
    rw [this]
  rw [e, ← List.filterMap_map, PySem.W.krv_range, List.filterMap_reverse, PySem.W.krv_all]
theorem back_tuple {t sl : Addr} {us : Array Value} {vl vu vs : Value} {Q : Value → Shared → Prop} (ht : IsTup s.heap t us) (hs : s.heap.IsSliceOf sl vl vu vs) (pl : IsPart vl none) (pu : IsPart vu none) (ps : IsPart vs (some (-1))) (few : us.size ≤ sizeLine)
    (q : Q (.ref s.heap.objs.size) { s with heap := s.heap.push { cls := .type "tuple", data := .seq us.toList.reverse.toArray } }) : wpAny (model prog w) A (getItem (.ref t) (.ref sl)) Q E s := by
  have fits : sizeOk (.seq us.toList.reverse.toArray) := by
    show us.toList.reverse.toArray.size ≤ sizeLine
    rw [List.size_toArray, List.length_reverse, Array.length_toList]
    exact few
  have ty : s.TypeIs (.ref sl) "slice" := by
    obtain ⟨o, g, c, _⟩ := hs
    exact ⟨o, g, c⟩
  unfold getItem
  try with_reducible refine wpAny_holding ?_
  first | refine wpAny_bind (wpAny_pure ?_) | skip
  refine wpAny_bind (wpAny_sequenceKey ht.typeIs (by decide) (wpAny_bind (wpAny_callSpecial?_slot (name := Str.ofString "__getitem__") ht.typeIs slot_tuple_getitem (wpAny_call_entry slot_tuple_getitem ht.typeIs entry_tuple_getitem ?_ (args_tuple_getitem _ _)))))
  change wpAny _ _ (Builtin.Tuple.tupleItemsOf (.ref t) >>= _) _ _ s
  refine wpAny_bind (tupleItemsOf_ ht (wpAny_bind (wpAny_typeOf ty ?_)))
  rw [if_pos (by decide)]
  refine wpAny_bind (back_applied hs pl pu ps ?_)
  change wpAny _ _ (if ((us.size : Int) - 1 == 0 && (-1 : Int) == 1 && us.size == us.size) = true then _ else _) _ _ s
  rw [if_neg (by rw [show ((-1 : Int) == 1) = false by decide]; simp), back_items]
  first
    | exact wpAny_bind (m := Builtin.Tuple.tupleExact _) (wpAny_newObj_type (wpAny_pure ⟨_, rfl, wpAny_pure q⟩) fits)
    | exact wpAny_bind (wpAny_bind (m := Builtin.Tuple.tupleExact _) (wpAny_newObj_type (wpAny_pure (wpAny_pure ⟨_, rfl, wpAny_pure q⟩)) fits))
    | exact wpAny_bind (wpAny_bind (m := Builtin.Tuple.tupleExact _) (wpAny_newObj_type (wpAny_pure ⟨_, rfl, wpAny_pure q⟩) fits))
end
end Xby
namespace Xby
open PySem PySem.Spec PyProof.Rows L2
section
variable {X : Cx}
def tBackT (K : PySem.W.Frag) (te : TE) : TE := fun σ H Q => te σ H fun x H1 => ∃ a xs, x = .ref a ∧ SqT K H1 a xs ∧ ∀ p, H1 p = none → Q (.ref p) (upd H1 p (.tup xs.reverse))
theorem pe_backT {e : Expr} {te : TE} {k : Nat} {p1 p2 p3 pos : Pos} (K : PySem.W.Frag) (hK : X.K = K) (he : PE X e te) : PE X (.Subscript e (.Slice none none (some (.UnaryOp .USub (.Constant (.int 1) k p1) p2)) p3) pos) (tBackT K te) := by
  subst hK
  constructor
  intro pins s σ H Q I h
  refine Subscript_ (thn (he.run pins s σ H _ I h) fun v s1 ⟨x, H1, I1, r1, a, xs, ex, hx, q⟩ => ?_)
  subst ex
  cases r1
  have neg : PO X (some (.UnaryOp .USub (.Constant (.int 1) k p1) p2)) (tPart (tUn (rU fun i => .int (-i)) (tC (.int 1)))) := po_some (pe_un un_neg pe_int)
  refine wpAny_Slice (thn (po_none.run pins s1 σ H1 (fun o G => o = none ∧ G = H1) I1 ⟨rfl, rfl⟩) fun vl s2 ⟨l, H2, I2, pl, el, e2⟩ => ?_)
  refine thn (po_none.run pins s2 σ H2 (fun o G => o = none ∧ G = H2) I2 ⟨rfl, rfl⟩) fun vu s3 ⟨u, H3, I3, pu, eu, e3⟩ => ?_
  refine thn (neg.run pins s3 σ H3 (fun o G => o = some (-1) ∧ G = H3) I3 ⟨1, rfl, -1, rfl, rfl, rfl⟩) fun vs s4 ⟨o, H4, I4, ps, eo, e4⟩ => ?_
  subst el e2 eu e3 eo e4
  have J : Inv X pins σ H4 { s4 with heap := s4.heap.push { cls := .type "slice", data := .fields #[vl, vu, vs] } } := I4.kept (t' := s4.toks) fun b ob z => Heap.get?_push_of_some _ z
  obtain ⟨its, r, ht, hz⟩ := J.tuple hx
  have len := r.length
  change wpAny (model X.prog X.w) X.A (subscriptTail e (.Slice none none (some (.UnaryOp .USub (.Constant (.int 1) k p1) p2)) p3) (.ref a) (.ref s4.heap.objs.size)) (EP X pins σ Q) X.xe { s4 with heap := s4.heap.push { cls := .type "slice", data := .fields #[vl, vu, vs] } }
  refine tail_any (ops := [.ref a, .ref s4.heap.objs.size]) ht.typeIs slot_tuple_getitem.lookup ?_ (by with_unfolding_all rfl)
  refine back_tuple ht (Heap.IsSliceOf.new _ vl vu vs) pl pu ps (by rw [List.size_toArray]; omega) ?_
  refine ⟨.ref _, _, J.laid (t' := s4.toks) (o := .tup xs.reverse) (fun b ob z => Heap.get?_push_of_some _ z) (Nat.le_refl _) ?_, rfl, q _ (J.hok.fresh (Nat.le_refl _))⟩
  exact ⟨by rw [List.length_reverse]; exact hz, _, r.reverse, IsTup.new _ _⟩
theorem sl_tupAK (K : PySem.W.Frag) (hK : X.K = K) : SlR X (rSlA K) := by
  subst hK
  exact sl_tupA
theorem op_catAK (K : PySem.W.Frag) (hK : X.K = K) : OpR X (binaryOp .Add) (rCatA K) := by
  subst hK
  exact op_catA
theorem call_tupleK (K : PySem.W.Frag) (hK : X.K = K) : CallR X (.type "tuple") (fun xs H Q => ∃ p ys, xs = [.ref p] ∧ ((SqL K H p ys ∧ ∀ l, H l = none → Q (.ref l) (upd H l (.tup ys))) ∨ (SqT K H p ys ∧ Q (.ref p) H))) := by
  subst hK
  exact call_tuple_of
end
end Xby

set_option Elab.async false
set_option linter.all false
set_option maxRecDepth 100000
set_option maxHeartbeats 4000000
/-! # words, cells, columns, rows, as data -/
namespace Xby
open PySem L2
def lowC (c : Nat) : Bool := decide (97 ≤ c ∧ c ≤ 122)
def wordS (x : Str) : Bool := decide (1 ≤ x.length ∧ x.length ≤ 8) && x.cps.toList.all lowC
def wordD : PyData → Bool
  | .str x => wordS x
  | _ => false
def intD (lo hi : Int) : PyData → Bool
  | .int i => decide (lo ≤ i ∧ i ≤ hi)
  | _ => false
def nonD : PyData → Bool
  | .none => true
  | _ => false
def cellD (d : PyData) : Bool := nonD d || intD (-999) 999 d || wordD d
def strD : PyData → Str
  | .str x => x
  | _ => Str.empty
def colsD : PyData → Bool
  | .tuple ds => decide (1 ≤ ds.length ∧ ds.length ≤ 3) && ds.all wordD && decide (ds.map strD).Nodup
  | _ => false
def rowD (n : Nat) : PyData → Bool
  | .tuple ds => decide (ds.length = n) && ds.all cellD
  | _ => false
/-- a text among them is no great one -/
def Sh (d : PyData) : Prop := ∀ x, d = .str x → x.length ≤ 1000000
def Sh1 (d : PyData) : Prop := ∀ ds, d = .tuple ds → ∀ e ∈ ds, Sh e
def Sh2 (d : PyData) : Prop := ∀ ds, d = .tuple ds → ∀ e ∈ ds, Sh1 e
theorem le_a (c : Nat) : (!decide ((⟨#[c]⟩ : Str).cps.toList < ("a" : Str).cps.toList)) = decide (97 ≤ c) := by
  have : ("a" : Str).cps.toList = [97] := by decide +kernel
  rw [this]
  show (!decide ([c] < [97])) = _
  simp only [List.cons_lt_cons_iff, List.not_lt_nil, and_false, or_false]
  by_cases h : c < 97
  · simp [h, Nat.not_le.mpr h]
  · simp [h, Nat.not_lt.mp h]
theorem le_z (c : Nat) : (!decide (("z" : Str).cps.toList < (⟨#[c]⟩ : Str).cps.toList)) = decide (c ≤ 122) := by
  have : ("z" : Str).cps.toList = [122] := by decide +kernel
  rw [this]
  show (!decide ([122] < [c])) = _
  simp only [List.cons_lt_cons_iff, List.not_lt_nil, and_false, or_false]
  by_cases h : 122 < c
  · simp [h, Nat.not_le.mpr h]
  · simp [h, Nat.not_lt.mp h]
section
variable {K : PySem.W.Frag} {H : Hp} {v : V} {d : PyData}
theorem Dq.isStr (h : Dq K H v d) : (∃ x, v = .str x ∧ d = .str x) ∨ ∃ T : String, TyX K H v (.type T) ∧ kitB T "str" = some false ∧ wordD d = false := by
  cases h with
  | non => exact .inr ⟨_, .base .non, by decide +kernel, rfl⟩
  | bl b => exact .inr ⟨_, .base (.bl b), by decide +kernel, rfl⟩
  | int i => exact .inr ⟨_, .base (.int i), by decide +kernel, rfl⟩
  | str x => exact .inl ⟨x, rfl, rfl⟩
  | lst hs _ _ => exact .inr ⟨_, .base (.lst hs), by decide +kernel, rfl⟩
  | tup hs _ =>
    refine .inr ⟨"tuple", ?_, by decide +kernel, rfl⟩
    rcases hs with (hs | ⟨o, hs⟩) | ⟨o, _, _, hk, hc, _⟩
    · exact .base (.tup hs)
    · exact .fTuple hs
    · exact .kTuple hk hc
  | dct hs _ => exact .inr ⟨_, .base (.dK hs), by decide +kernel, rfl⟩
theorem tyTup {a : Addr} {xs : List V} (hs : SqT K H a xs) : TyX K H (.ref a) (.type "tuple") := by
  rcases hs with (hs | ⟨o, hs⟩) | ⟨o, _, _, hk, hc, _⟩
  · exact .base (.tup hs)
  · exact .fTuple hs
  · exact .kTuple hk hc
theorem Dq.isTup (h : Dq K H v d) : (∃ a xs ds, v = .ref a ∧ d = .tuple ds ∧ SqT K H a xs ∧ DqAll K H xs ds) ∨ ∃ T : String, TyX K H v (.type T) ∧ kitB T "tuple" = some false ∧ ∀ ds, d ≠ .tuple ds := by
  cases h with
  | non => exact .inr ⟨_, .base .non, by decide +kernel, by simp⟩
  | bl b => exact .inr ⟨_, .base (.bl b), by decide +kernel, by simp⟩
  | int i => exact .inr ⟨_, .base (.int i), by decide +kernel, by simp⟩
  | str x => exact .inr ⟨_, .base (.str x), by decide +kernel, by simp⟩
  | lst hs _ _ => exact .inr ⟨_, .base (.lst hs), by decide +kernel, by simp⟩
  | tup hs ha => exact .inl ⟨_, _, _, rfl, rfl, hs, ha⟩
  | dct hs _ => exact .inr ⟨_, .base (.dK hs), by decide +kernel, by simp⟩
theorem Dq.ofTup {ds : List PyData} (h : Dq K H v (.tuple ds)) : ∃ a xs, v = .ref a ∧ SqT K H a xs ∧ DqAll K H xs ds := by
  cases h with
  | tup hs ha => exact ⟨_, _, rfl, hs, ha⟩
theorem Dq.okV (h : Dq K H v d) (lo hi : Int) : okV lo hi v = intD lo hi d := by
  cases h <;> rfl
theorem DqAll.len {vs : List V} {ds : List PyData} (h : DqAll K H vs ds) : vs.length = ds.length := by
  induction vs generalizing ds with
  | nil => cases h; rfl
  | cons v vs ih =>
    cases h with
    | cons _ t => simp [ih t]
theorem DqAll.get {vs : List V} {ds : List PyData} (h : DqAll K H vs ds) : ∀ {i : Nat} {v : V}, vs[i]? = some v → ∃ d, ds[i]? = some d ∧ Dq K H v d := by
  induction vs generalizing ds with
  | nil =>
    intro i v e
    simp at e
  | cons u vs ih =>
    intro i v e
    cases h with
    | cons a t =>
      cases i with
      | zero =>
        obtain rfl : u = v := by simpa using e
        exact ⟨_, rfl, a⟩
      | succ i => exact ih t (by simpa using e)
theorem kit_ss : kitB "str" "str" = some true := by decide +kernel
theorem kit_tt : kitB "tuple" "tuple" = some true := by decide +kernel
theorem DqAll.words {vs : List V} {ds : List PyData} (h : DqAll K H vs ds) (w : ds.all wordD = true) : vs = (ds.map strD).map V.str := by
  induction vs generalizing ds with
  | nil => cases h; rfl
  | cons v vs ih =>
    cases h with
    | cons a t =>
      rw [List.all_cons, Bool.and_eq_true] at w
      rw [List.map_cons, List.map_cons, ← ih t w.2]
      congr 1
      cases a with
      | str x => rfl
      | _ => exact absurd w.1 (by simp [wordD])
end
end Xby

set_option Elab.async false
set_option linter.all false
set_option maxRecDepth 100000
set_option maxHeartbeats 4000000
/-! # parts of tuples, in one word -/
namespace Xby
open PySem L2
section
variable {K : PySem.W.Frag} {H : Hp} {a b : Addr} {xs ys : List V} {Q : VK}
theorem cut_to {i : Int} (h0 : 0 ≤ i) : cutV xs none (some i) = xs.take i.toNat := by
  obtain ⟨k, rfl⟩ := Int.eq_ofNat_of_zero_le h0
  unfold cutV
  rw [HT.sIx_none, HT.sIx_nat, List.drop_zero, Int.toNat_natCast, Nat.sub_zero]
  by_cases h : k ≤ xs.length
  · rw [Nat.min_eq_left h]
  · rw [Nat.min_eq_right (by omega), List.take_of_length_le (Nat.le_refl _), List.take_of_length_le (by omega)]
theorem cut_from {i : Int} (h0 : 0 ≤ i) : cutV xs (some i) none = xs.drop i.toNat := by
  obtain ⟨k, rfl⟩ := Int.eq_ofNat_of_zero_le h0
  unfold cutV
  rw [HT.sIx_none, HT.sIx_nat, Int.toNat_natCast]
  by_cases h : k ≤ xs.length
  · rw [Nat.min_eq_left h, List.take_of_length_le (by rw [List.length_drop]; omega)]
  · rw [Nat.min_eq_right (by omega), List.drop_of_length_le (Nat.le_refl _), List.drop_of_length_le (by omega)]
    simp
theorem cut_all {lo hi : Option Int} (h : HT.sIx xs.length 0 lo = 0 ∧ HT.sIx xs.length xs.length hi = xs.length) : cutV xs lo hi = xs := by
  unfold cutV
  rw [h.1, h.2]
  simp
/-- a part of a tuple: at some address -/
theorem part_of {lo hi : Option Int} (ha : H a = some (.tup xs)) (k : ∀ c H', Same H H' → H' c = some (.tup (cutV xs lo hi)) → Q (.ref c) H') : rSlA K (.ref a) lo hi H Q := by
  refine ⟨a, xs, rfl, SqT.of ha, fun h => ?_, fun _ p np => k p _ (Same.one np) upd_same⟩
  refine k a H (Same.refl H) ?_
  rw [cut_all h]
  exact ha
/-- a + b, tuples -/
theorem cat_of (ha : H a = some (.tup xs)) (hb : H b = some (.tup ys)) (few : xs.length + ys.length ≤ 1000) (k : ∀ c H', Same H H' → H' c = some (.tup (xs ++ ys)) → Q (.ref c) H') : rCatA K (.ref a) (.ref b) H Q := by
  refine ⟨a, b, xs, ys, rfl, rfl, SqT.of ha, SqT.of hb, ?_, fun h => ?_, fun _ h => ?_, fun _ _ p np => k p _ (Same.one np) upd_same⟩
  · have : sizeLine = 16777216 := sizeLine_eq
    omega
  · subst h
    exact k b H (Same.refl H) hb
  · subst h
    refine k a H (Same.refl H) ?_
    rw [List.append_nil]
    exact ha
end
/-! ## values without address, as data -/
def datC : V → PyData
  | .non => .none
  | .bl b => .bool b
  | .int i => .int i
  | .str x => .str x
  | _ => .none
def flatC : V → Bool
  | .non => true
  | .bl _ => true
  | .int _ => true
  | .str _ => true
  | _ => false
section
variable {K : PySem.W.Frag} {H : Hp}
theorem Dp.flat {v : V} (h : flatC v = true) : Dp K H v (datC v) := by
  cases v with
  | non => exact .non
  | bl b => exact .bl b
  | int i => exact .int i
  | str x => exact .str x
  | _ => cases h
theorem DpAll.flat {vs : List V} (h : ∀ v ∈ vs, flatC v = true) : DpAll K H vs (vs.map datC) := by
  induction vs with
  | nil => exact .nil
  | cons v vs ih => exact .cons (Dp.flat (h v List.mem_cons_self)) (ih fun u hu => h u (List.mem_cons_of_mem _ hu))
theorem Dq.flat {v : V} (h : flatC v = true) : Dq K H v (datC v) := by
  cases v with
  | non => exact .non
  | bl b => exact .bl b
  | int i => exact .int i
  | str x => exact .str x
  | _ => cases h
theorem DqAll.flat {vs : List V} (h : ∀ v ∈ vs, flatC v = true) : DqAll K H vs (vs.map datC) := by
  induction vs with
  | nil => exact .nil
  | cons v vs ih => exact .cons (Dq.flat (h v List.mem_cons_self)) (ih fun u hu => h u (List.mem_cons_of_mem _ hu))
end
/-! ## shapes -/
def Shp (k : Nat) (d : PyData) : Prop := d.canLay0 = true ∧ d.depth ≤ k
instance (k : Nat) (d : PyData) : Decidable (Shp k d) := inferInstanceAs (Decidable (_ ∧ _))
theorem Shp.shaped {k : Nat} {d : PyData} (h : Shp k d) (hk : k ≤ 64) : SeqAt.shaped d = true := by
  unfold SeqAt.shaped
  rw [h.1, Bool.true_and]
  exact decide_eq_true (Nat.le_trans h.2 hk)
theorem Shp.all {k : Nat} : ∀ {ds : List PyData}, (∀ d ∈ ds, Shp k d) → PyData.canLayAll0 ds = true ∧ PyData.depthAll ds ≤ k
  | [], _ => ⟨rfl, Nat.zero_le _⟩
  | d :: ds, h => by
    obtain ⟨a, b⟩ := h d List.mem_cons_self
    obtain ⟨c, e⟩ := Shp.all (ds := ds) fun x hx => h x (List.mem_cons_of_mem _ hx)
    refine ⟨?_, ?_⟩
    · simp only [PyData.canLayAll0, a, c, Bool.and_self]
    · simp only [PyData.depthAll]
      exact Nat.max_le.mpr ⟨b, e⟩
theorem Shp.tup {k : Nat} {ds : List PyData} (h : ∀ d ∈ ds, Shp k d) : Shp (k + 1) (.tuple ds) := by
  obtain ⟨a, b⟩ := Shp.all h
  refine ⟨by simpa only [PyData.canLay0] using a, ?_⟩
  simp only [PyData.depth]
  omega
/-! ## the text shown tells data apart; == of it is equality -/
theorem cps_app (a b : Str) : (a ++ b).cps = a.cps ++ b.cps := rfl
def FrP (d e : PyData) : Prop := ∀ r q : List Nat, d.shown.cps.toList ++ r = e.shown.cps.toList ++ q → d = e ∧ r = q
inductive FrPs : List PyData → List PyData → Prop
  | nil : FrPs [] []
  | cons {d e : PyData} {ds es : List PyData} : FrP d e → FrPs ds es → FrPs (d :: ds) (e :: es)
theorem join_cons2 (x y : Str) (r : List Str) : (Str.join ", " (x :: y :: r)).cps.toList = x.cps.toList ++ ((", " : Str).cps.toList ++ (Str.join ", " (y :: r)).cps.toList) := by
  show ((x ++ ", ") ++ Str.join ", " (y :: r) : Str).cps.toList = _
  rw [cps_app, cps_app, Array.toList_append, Array.toList_append, List.append_assoc]
theorem FrPs.join {ds es : List PyData} (h : FrPs ds es) : ∀ r q : List Nat, (Str.join ", " (PyData.shownAll ds)).cps.toList ++ r = (Str.join ", " (PyData.shownAll es)).cps.toList ++ q → ds = es ∧ r = q := by
  induction h with
  | nil => exact fun r q z => ⟨rfl, z⟩
  | @cons d e ds es h1 h2 ih =>
    cases h2 with
    | nil =>
      intro r q z
      obtain ⟨a, b⟩ := h1 r q z
      exact ⟨by rw [a], b⟩
    | @cons d2 e2 ds2 es2 h3 h4 =>
      intro r q z
      have e1 : (Str.join ", " (PyData.shownAll (d :: d2 :: ds2))).cps.toList = d.shown.cps.toList ++ ((", " : Str).cps.toList ++ (Str.join ", " (PyData.shownAll (d2 :: ds2))).cps.toList) := join_cons2 _ _ _
      have e2 : (Str.join ", " (PyData.shownAll (e :: e2 :: es2))).cps.toList = e.shown.cps.toList ++ ((", " : Str).cps.toList ++ (Str.join ", " (PyData.shownAll (e2 :: es2))).cps.toList) := join_cons2 _ _ _
      rw [e1, e2, List.append_assoc, List.append_assoc, List.append_assoc, List.append_assoc] at z
      obtain ⟨a, b⟩ := h1 _ _ z
      obtain ⟨a2, b2⟩ := ih _ _ (List.append_cancel_left b)
      exact ⟨by rw [a, a2], b2⟩
theorem FrPs.len {ds es : List PyData} (h : FrPs ds es) : (PyData.shownAll ds).length = (PyData.shownAll es).length := by
  induction h with
  | nil => rfl
  | cons _ _ ih => exact congrArg (· + 1) ih
theorem FrPs.tup {ds es : List PyData} (h : FrPs ds es) : FrP (.tuple ds) (.tuple es) := by
  intro r q z
  have t : ∀ ds : List PyData, (PyData.shown (.tuple ds)).cps.toList = ("(" : Str).cps.toList ++ ((Str.join ", " (PyData.shownAll ds)).cps.toList ++ (if (PyData.shownAll ds).length == 1 then ",)" else ")" : Str).cps.toList) := fun ds => by
    simp only [PyData.shown]
    unfold tupleText
    rw [cps_app, cps_app, Array.toList_append, Array.toList_append, List.append_assoc]
    split <;> rfl
  rw [t, t, h.len, List.append_assoc, List.append_assoc, List.append_assoc, List.append_assoc] at z
  obtain ⟨a, b⟩ := h.join _ _ (List.append_cancel_left z)
  exact ⟨by rw [a], List.append_cancel_left b⟩
theorem FrP.shown {d e : PyData} (h : FrP d e) : d.shown = e.shown ↔ d = e := by
  refine ⟨fun z => ?_, fun z => by rw [z]⟩
  exact (h [] [] (by rw [z])).1
theorem FrP.of_not {d e : PyData} (h1 : d.shown.cps.toList.isPrefixOf e.shown.cps.toList = false) (h2 : e.shown.cps.toList.isPrefixOf d.shown.cps.toList = false) : FrP d e := by
  intro r q z
  rcases List.append_eq_append_iff.mp z with ⟨a, ha, _⟩ | ⟨a, ha, _⟩
  · rw [ha, List.isPrefixOf_iff_prefix.mpr (List.prefix_append _ _)] at h1
    cases h1
  · rw [ha, List.isPrefixOf_iff_prefix.mpr (List.prefix_append _ _)] at h2
    cases h2
theorem FrP.refl (d : PyData) : FrP d d := fun _ _ z => ⟨rfl, List.append_cancel_left z⟩
def EqP (d e : PyData) : Prop := PyData.eqv d e = true ↔ d = e
inductive EqPs : List PyData → List PyData → Prop
  | nil : EqPs [] []
  | cons {d e : PyData} {ds es : List PyData} : EqP d e → EqPs ds es → EqPs (d :: ds) (e :: es)
theorem EqPs.all {ds es : List PyData} (h : EqPs ds es) : PyData.eqvAll ds es = true ↔ ds = es := by
  induction h with
  | nil => simp [PyData.eqvAll]
  | cons a _ ih =>
    simp only [PyData.eqvAll, Bool.and_eq_true, List.cons.injEq]
    rw [ih]
    exact and_congr_left' a
theorem EqPs.tup {ds es : List PyData} (h : EqPs ds es) : EqP (.tuple ds) (.tuple es) := by
  unfold EqP
  simp only [PyData.eqv, PyData.tuple.injEq]
  exact h.all
def Plain : PyData → Bool
  | .none => true
  | .int _ => true
  | .str _ => true
  | _ => false
theorem EqP.plain {d e : PyData} (hd : Plain d = true) (he : Plain e = true) : EqP d e := by
  unfold EqP
  cases d <;> cases e <;> first | cases hd; done | cases he; done | simp [PyData.eqv]
end Xby
namespace Xby
theorem FrPs.map {α : Type} {f : α → PySem.PyData} : ∀ {l k : List α}, l.length = k.length → (∀ x ∈ l, ∀ y ∈ k, FrP (f x) (f y)) → FrPs (l.map f) (k.map f)
  | [], [], _, _ => .nil
  | x :: l, y :: k, e, h => .cons (h x List.mem_cons_self y List.mem_cons_self) (FrPs.map (by simpa using e) fun a ha b hb => h a (List.mem_cons_of_mem _ ha) b (List.mem_cons_of_mem _ hb))
theorem EqPs.map {α : Type} {f : α → PySem.PyData} : ∀ {l k : List α}, l.length = k.length → (∀ x ∈ l, ∀ y ∈ k, EqP (f x) (f y)) → EqPs (l.map f) (k.map f)
  | [], [], _, _ => .nil
  | x :: l, y :: k, e, h => .cons (h x List.mem_cons_self y List.mem_cons_self) (EqPs.map (by simpa using e) fun a ha b hb => h a (List.mem_cons_of_mem _ ha) b (List.mem_cons_of_mem _ hb))
end Xby

set_option Elab.async false
set_option linter.all false
set_option maxRecDepth 100000
set_option maxHeartbeats 4000000
/-! # try: .. with several clauses, each 'except X as n' of one name n -/
namespace Xby
open PySem PySem.Spec PyProof.Rows L2
abbrev Suite := Addr → Value → Option Addr → TS
/-- behind a suite the name goes -/
def goes (i : Nat) (D : Ends) : Ends := { nx := fun σ H => D.nx (σ.set i none) H, rt := D.rt, bk := fun σ H => D.bk (σ.set i none) H, ct := fun σ H => D.ct (σ.set i none) H }
def wEach (K : PySem.W.Frag) (i : Nat) (out : WX) (D : Ends) : List (Value × Suite) → WX
  | [] => out
  | (c, ts) :: r => fun cls d σ H => ∃ b, PySem.W.exmOne K cls c = some b ∧ (b = true → ∀ a, H a = none → ts a cls d (goes i D) (σ.set i (some (.ref a))) H) ∧ (b = false → wEach K i out D r cls d σ H)
inductive Clauses (X : Cx) (n : Str) : List ExceptHandler → List (Value × Suite) → Prop
  | nil : Clauses X n [] []
  | cons {x : Str} {c : Value} {ts : Suite} {st : Stmt} {suite : List Stmt} {p q : Pos} {hds : List ExceptHandler} {l : List (Value × Suite)} (hc : Names X x c)
      (hsu : ∀ (a : Addr) (oe : Obj) (cls : Value) (d : Option Addr) (pn : List (Addr × Obj)), Zc cls d oe → (∃ vs, oe.data = .fields vs) → PSs (X.suite a ((a, oe) :: pn)) (st :: suite) (ts a cls d)) (r : Clauses X n hds l) :
      Clauses X n (.ExceptHandler (some (.Name x p)) (some n) (st :: suite) q :: hds) ((c, ts) :: l)
section
variable {X : Cx} {n : Str} {i : Nat} {body : List Stmt} {h₀ : ExceptHandler} {hds : List ExceptHandler} {l : List (Value × Suite)} {pos : Pos} {tb : WX → TS} {out : WX}
/-- what one asks of the clauses where an exception e stands -/
def Handled (X : Cx) (pins : List (Addr × Obj)) (D : Ends) (hds : List ExceptHandler) (e : Value) (s : Shared) : Prop :=
  wpAny (model X.prog X.w) X.A (handleBy e X.env hds) (SP X pins D) X.xe s
theorem ps_try_each (stk : X.stack = X.env :: X.outer) (frm : X.env.frame = some X.env.locals) (nd : X.N.Nodup) (at_i : X.N[i]? = some n) (loc : X.env.kindOf n = some .local) (tk : Takes X out)
    (bodyOk : ∀ (W : WX) (pn : List (Addr × Obj)) (xe : Value → Shared → Prop), Takes (X.tr pn xe) W → PassesOwn (model X.prog X.w) X.A X.env xe → PSs (X.tr pn xe) body (tb W))
    (cl : Clauses X n (h₀ :: hds) l) : PS X (.Try body (h₀ :: hds) [] [] pos) (fun D σ H => tb (wEach X.K i out D l) D σ H) := by
  constructor
  intro pins s σ H D I h
  have ok := I.ok
  have frs' : X.A.frames = some (X.env :: X.outer) := by rw [ok.frames, stk]
  have vis : Loc X.env.scope n := .inl loc
  refine wpAny_Try_except ?_
  have B := bodyOk (wEach X.K i out D l) (X.pn ++ pins) (fun e s1 => wpAny (model X.prog X.w) X.A (noteFrame e X.env) (fun _ s2 => wpAny (model X.prog X.w) X.A (setFlight e none) (fun _ s3 => Handled X pins D (h₀ :: hds) e s3) X.xe s2) X.xe s1)
    (fun u s1 xx => ?_) PassesOwn.looking
  · refine wpAny_mono (B.run [] s σ H D (I.toTry _) h) (fun f s1 z => ?_) fun _ _ z => z
    cases f with
    | next =>
      obtain ⟨σ1, H1, J, q⟩ := z
      exact wpAny_execs_nil ⟨σ1, H1, J.ofTry ok, q⟩
    | brk =>
      obtain ⟨σ1, H1, J, q⟩ := z
      exact ⟨σ1, H1, J.ofTry ok, q⟩
    | cont =>
      obtain ⟨σ1, H1, J, q⟩ := z
      exact ⟨σ1, H1, J.ofTry ok, q⟩
    | ret u =>
      obtain ⟨v, σ1, H1, J, r, q⟩ := z
      exact ⟨v, σ1, H1, J.ofTry ok, r, q⟩
  obtain ⟨a, F, sI, ps, σ1, H1, cls, d, rfl, J0, nb, up, sky, na, os, ag, wish⟩ := xx
  have J : Inv X pins σ1 H1 sI := J0.ofTry ok
  have sky2 : Sky F (X.env :: X.outer) a (Zc cls d) X.env.locals s1.heap := by
    rw [← stk]
    exact sky
  change wpAny (model X.prog X.w) X.A (noteFrame (.ref a) X.env) _ _ _
  refine Sky.land Zc.steady frs' frm sky2 fun h3 fl3 up3 => ?_
  have J3 : Inv X pins σ1 H1 { s1 with heap := h3 } := J.landed nb fl3.1 (up.trans up3) os ag
  obtain ⟨oe3, vs3, g3, z3, d3⟩ := fl3.there
  have nfr : a ∉ frs (X.env :: X.outer) := fun mem => by
    obtain ⟨_, o2, g2, isnt⟩ := fl3.2.2.1.mem mem
    rw [g3] at g2
    cases g2
    exact isnt _ d3
  have nL : a ≠ X.env.locals := fun z => nfr (List.mem_filterMap.mpr ⟨X.env, List.mem_cons_self, by rw [frm, z]⟩)
  have nF : a ∉ X.fs := fun mem => by
    obtain ⟨e, he, q⟩ := List.mem_filterMap.mp mem
    exact nfr (List.mem_filterMap.mpr ⟨e, List.mem_cons_of_mem _ he, q⟩)
  have S3 := J3.suite g3 d3 na nL nF
  have all : ∀ {hs : List ExceptHandler} {k : List (Value × Suite)}, Clauses X n hs k → wEach X.K i out D k cls d σ1 H1 → Handled X pins D hs (.ref a) { s1 with heap := h3 } := by
    intro hs k ck
    induction ck with
    | nil =>
      intro w
      refine wpAny_handleBy_nil ?_
      obtain ⟨_, _, _, oe, vs, T, oT, ts', he, hz, hd, h1, hr⟩ := id fl3
      unfold PySem.passOn
      refine wpAny_bind (wpAny_field he hd h1 ?_)
      rw [if_neg (by simp : ¬ ((Value.ref T == Value.none) = true))]
      have on : wpAny (model X.prog X.w) X.A (setFlight (.ref a) X.env.frame) (fun _ s4 => wpAny (model X.prog X.w) X.A (throw (.ref a) : Sem Flow) (SP X pins D) X.xe s4) X.xe { s1 with heap := h3 } := by
        rw [frm]
        refine HandSPX.setFlight_upZ fl3 fun h4 fl4 up4 => wpAny_throw (tk _ _ ⟨a, F, sI, pins, σ1, H1, cls, d, rfl, J, nb, (up.trans up3).trans up4, .inr (.inr ?_), na, os, ag, w⟩)
        rw [stk]
        exact fl4
      first
        | exact wpAny_bind (wpAny_pure (wpAny_bind on))
        | exact wpAny_bind on
    | @cons x c ts st suite p q hs2 k2 named suiteOk rest ih =>
      rintro ⟨b, exm, yes, no⟩
      refine wpAny_handleBy_cons (codeAny_handlers_test ?_) (by intro z; cases z)
      have looks : PySem.W.Looks (model X.prog X.w) h3 (typeOf (.ref a)) cls := fun A Q E s k z => wpAny_typeOf_ref (k _ _ g3) (by rw [z3.1]; exact z)
      have isOne := PySem.W.exm_one (M := model X.prog X.w) J3.kIn looks exm
      have name : ∀ {Q : Value → Shared → Prop} {E : Value → Shared → Prop}, Q c { s1 with heap := h3 } → wpAny (model X.prog X.w) (X.A.mark (some (.ref a))) (eval (.Name x p) X.env) Q E { s1 with heap := h3 } := fun {Q E} z => by
        obtain ⟨gl, db, m | ⟨m, bv, nn⟩⟩ := named
        · exact ld_glob (X := X.suite a ((a, oe3) :: (X.pn ++ pins))) S3 gl m z db
        · exact ld_blt (X := X.suite a ((a, oe3) :: (X.pn ++ pins))) S3 gl m bv z nn db
      refine name (isOne.here ?_)
      cases b with
      | false =>
        change wpAny _ X.A (handleBy (.ref a) X.env hs2) _ _ _
        exact ih (no rfl)
      | true =>
        refine codeAny_handlers_suite_as (HandSPX.lands_againZ fl3 fun h4 fl4 up4 => ?_)
        have J4 : Inv X pins σ1 H1 { s1 with heap := h4 } := J.landed nb fl4.1 ((up.trans up3).trans up4) os ag
        obtain ⟨oe4, vs4, g4, z4, d4⟩ := fl4.there
        refine store_ok (X := X.suite a ((a, oe4) :: (X.pn ++ pins))) (v := .ref a) (J4.suite g4 d4 na nL nF) nd at_i vis rfl (fun s5 S5 => ?_) (.inr loc)
        refine wpAny_mono ((suiteOk a oe4 cls d (X.pn ++ pins) z4 ⟨_, d4⟩).run [] s5 _ H1 _ S5 (yes rfl a na)) (fun f s6 z => ?_) fun _ _ z => z.elim
        have last : ∀ {σ6 : L2.St} {H6 : Hp} {Q : Shared → Prop}, Inv (X.suite a ((a, oe4) :: (X.pn ++ pins))) [] σ6 H6 s6 → (∀ s7, Inv X pins (σ6.set i none) H6 s7 → Q s7) →
            wpAny (model X.prog X.w) X.A (do bindName X.env n .none; unbindBehindTheSuite X.env n q) (fun _ s7 => Q s7) X.xe s6 := fun {σ6 H6 Q} S6 hq => gone_ok (S6.unsuite ok) nd at_i loc hq
        cases f with
        | next =>
          obtain ⟨σ6, H6, S6, z6⟩ := z
          exact last S6 fun s7 J7 => ⟨_, _, J7, z6⟩
        | brk =>
          obtain ⟨σ6, H6, S6, z6⟩ := z
          exact last S6 fun s7 J7 => ⟨_, _, J7, z6⟩
        | cont =>
          obtain ⟨σ6, H6, S6, z6⟩ := z
          exact last S6 fun s7 J7 => ⟨_, _, J7, z6⟩
        | ret u =>
          obtain ⟨v6, σ6, H6, S6, r6, z6⟩ := z
          exact last S6 fun s7 J7 => ⟨_, _, _, J7, r6, z6⟩
  exact all cl wish
end
end Xby

set_option Elab.async false
set_option linter.all false
set_option maxRecDepth 100000
set_option maxHeartbeats 4000000
/-! # for laws of any value: making under a try, list(..), the heap without the drawer, sizes -/
namespace Xby
open PySem PySem.Spec PyProof.Rows L2
section
variable {X : Cx} {CX : CXT} {k : Nat} {f C : Addr} {fd : FuncData} {ps : List Str} {sp : Sp} {x : Str} {p pos : Pos} {e : Expr} {es : List Expr} {t : TA}
theorem run_makeS {pins : List (Addr × Obj)} {σ : L2.St} {H : Hp} {s : Shared} {Q : VK} {E : XK} {us : List Value} {vs : List V} (M : Mk X.K C f) (F : FnOk X.prog X.w X.K X.mg X.base CX k f fd ps sp) (room : Room (k + 1) X.A) (bd : Binds X.K fd ps [])
    (out : PassesAt CX X σ E) (I : Inv X pins σ H s) (r : Vals vs us)
    (q : ∀ y dy, H y = none → H dy = none → dy ≠ y → sp (.ref y :: vs) (upd (upd H dy (.own y)) y (.ins C dy [])) (fun v H2 => v = .non ∧ Q (.ref y) H2) E) :
    wpAny (model X.prog X.w) X.A (call (.ref C) us) (EP X pins σ Q) X.xe s := by
  obtain ⟨y, ey⟩ : ∃ y, y = s.heap.objs.size + 1 := ⟨_, rfl⟩
  have q0 := q (s.heap.objs.size + 1) s.heap.objs.size (I.hok.fresh (Nat.le_succ _)) (I.hok.fresh (Nat.le_refl _)) (Nat.ne_of_lt (Nat.lt_succ_self _))
  have J := Inv.made (C := C) I
  have rv : Vals (V.ref (s.heap.objs.size + 1) :: vs) (Value.ref (s.heap.objs.size + 1) :: us) := .cons rfl r
  have len : (Value.ref (s.heap.objs.size + 1) :: us).length = ps.length := rv.length.symm.trans (F.len _ _ _ _ q0)
  have bn := bd _ (Value.ref (s.heap.objs.size + 1) :: us) J.kIn (by rw [List.append_nil]; exact len)
  rw [List.append_nil] at bn
  have go := F.run _ X.stack _ _ ⟨Value.ref (s.heap.objs.size + 1) :: us, []⟩ (Value.ref (s.heap.objs.size + 1) :: us) _ _ E (room.make C us []) (J.env0.make C us []) bn rv q0
  refine wpAny_call (make_map (f := f) I.kIn M.makes M.init (beq_iff_eq.mp M.fn) (codeAny_mono go fun r s1 z => ?_))
  cases r with
  | error e => exact out pins _ _ e s1 J z
  | ok fl =>
    cases fl with
    | ret u =>
      obtain ⟨v, H1, J1, rv1, rfl, q1⟩ := J.after z
      exact ⟨rv1, V.ref (s.heap.objs.size + 1), H1, J1, rfl, q1⟩
    | next => exact z.elim
    | brk => exact z.elim
    | cont => exact z.elim
def tMakeS (C : Addr) (sp : Sp) (E : L2.St → XK) (t : TA) : TE := fun σ H Q => t σ H fun vs H1 => ∀ y dy, H1 y = none → H1 dy = none → dy ≠ y → sp (.ref y :: vs) (upd (upd H1 dy (.own y)) y (.ins C dy [])) (fun v H2 => v = .non ∧ Q (.ref y) H2) (E σ)
theorem pe_makeS {E : L2.St → XK} (M : Mk X.K C f) (F : FnOk X.prog X.w X.K X.mg X.base CX k f fd ps sp) (room : Room (k + 1) X.A) (gl : Gl X x) (at_x : X.mg x = some (.ref C)) (bd : Binds X.K fd ps []) (out : ∀ σ, PassesAt CX X σ (E σ)) (args : PA X (e :: es) t)
    (db : (x == ("__debug__" : Str)) = false := by decide) (he : starEach (e :: es) X.env = (false, eval e X.env) :: starEach es X.env := by rfl) (hpl : (backTo pos (starEach es X.env)).any (·.1) = false := by rfl) :
    PE X (.Call (.Name x p) (e :: es) [] pos) (tMakeS C sp E t) := by
  constructor
  intro pins s σ H Q I h
  refine wpAny_Call_Name_kw (ld_glob I gl at_x ?_ db)
  exact PySem.W.callWith_K (h₀ := X.base) I.ok.mod.kin M.kp (thn (args.run pos pins s σ H _ I h) fun us s1 ⟨vs, H1, I1, r, q⟩ => ⟨I1.kIn, run_makeS M F room bd (out σ) I1 r q⟩) he hpl
/-- list(t), t a tuple; it is not sys.modules -/
theorem call_listT (K : PySem.W.Frag) (hK : X.K = K) : CallR X (.type "list") (fun xs H Q => ∃ p ys, xs = [.ref p] ∧ SqT K H p ys ∧ ∀ l, H l = none → sysModules ≠ l → Q (.ref l) (upd H l (.lst ys))) := by
  subst hK
  rintro pins s σ H xs us Q I r ⟨p, ys, rfl, hq, q⟩
  obtain ⟨u, rfl, rx⟩ := vals1 r
  cases rx
  obtain ⟨its, rv, pl, few⟩ := I.tuple hq
  have len := rv.length
  obtain ⟨o, g, c, n, d⟩ := pl
  refine call_list_seq p (.inr rfl) g c d (fun h2 c2 kp e => ?_) (by simp only [List.size_toArray] <;> omega)
  have J := I.laid (o := .lst ys) (t' := s.toks) kp (Nat.le_refl _) ⟨few, its, c2, rv, e⟩
  exact ⟨.ref s.heap.objs.size, _, J, rfl, q _ (I.hok.fresh (Nat.le_refl _)) (Nat.ne_of_lt (mods_lt I))⟩
end
/-! ## the heap without the drawer -/
def wo (p : Addr) (H : Hp) : Hp := fun b => if b = p then none else H b
section
variable {p a : Addr} {H H' : Hp} {o : HO}
theorem wo_same : Same (wo p H) H := fun b o e => by
  unfold wo at e
  split at e
  · cases e
  · exact e
theorem wo_at (n : a ≠ p) (e : H a = some o) : wo p H a = some o := by
  unfold wo
  rw [if_neg n]
  exact e
theorem wo_p : wo p H p = none := if_pos rfl
theorem wo_but (b : But p H H') : Same (wo p H) (wo p H') := fun c u e => by
  have n : c ≠ p := fun z => by rw [z, wo_p] at e; cases e
  exact wo_at n (b c u n (wo_same c u e))
end
/-! ## sizes, added up -/
structure Szs (w k : Nat) (ds : List PyData) : Prop where
  lv : PyData.leavesShortAll 40 ds = true
  wt : PyData.weightAll ds ≤ w
  dp : PyData.depthAll ds ≤ k
  sh : PyData.showableAll ds = true
theorem lvA : ∀ xs ys : List PyData, PyData.leavesShortAll 40 (xs ++ ys) = (PyData.leavesShortAll 40 xs && PyData.leavesShortAll 40 ys)
  | [], ys => by simp [PyData.leavesShortAll]
  | x :: xs, ys => by simp only [List.cons_append, PyData.leavesShortAll, lvA xs ys, Bool.and_assoc]
theorem wtA : ∀ xs ys : List PyData, PyData.weightAll (xs ++ ys) = PyData.weightAll xs + PyData.weightAll ys
  | [], ys => by simp [PyData.weightAll]
  | x :: xs, ys => by simp only [List.cons_append, PyData.weightAll, wtA xs ys]; omega
theorem dpA : ∀ xs ys : List PyData, PyData.depthAll (xs ++ ys) = max (PyData.depthAll xs) (PyData.depthAll ys)
  | [], ys => by simp [PyData.depthAll]
  | x :: xs, ys => by simp only [List.cons_append, PyData.depthAll, dpA xs ys]; omega
theorem shA : ∀ xs ys : List PyData, PyData.showableAll (xs ++ ys) = (PyData.showableAll xs && PyData.showableAll ys)
  | [], ys => by simp [PyData.showableAll]
  | x :: xs, ys => by simp only [List.cons_append, PyData.showableAll, shA xs ys, Bool.and_assoc]
section
variable {w v k : Nat} {d : PyData} {xs ys ds : List PyData}
theorem Szs.add (a : Szs w k xs) (b : Szs v k ys) : Szs (w + v) k (xs ++ ys) := ⟨by rw [lvA, a.lv, b.lv]; rfl, by rw [wtA]; exact Nat.add_le_add a.wt b.wt, by rw [dpA]; exact Nat.max_le.mpr ⟨a.dp, b.dp⟩, by rw [shA, a.sh, b.sh]; rfl⟩
theorem Szs.parts (a : Szs w k (xs ++ ys)) : Szs w k xs ∧ Szs w k ys := by
  obtain ⟨a1, a2, a3, a4⟩ := a
  rw [lvA, Bool.and_eq_true] at a1
  rw [wtA] at a2
  rw [dpA] at a3
  rw [shA, Bool.and_eq_true] at a4
  exact ⟨⟨a1.1, by omega, by omega, a4.1⟩, ⟨a1.2, by omega, by omega, a4.2⟩⟩
theorem Szs.more {w' k' : Nat} (a : Szs w k xs) (hw : w ≤ w') (hk : k ≤ k') : Szs w' k' xs := ⟨a.lv, Nat.le_trans a.wt hw, Nat.le_trans a.dp hk, a.sh⟩
theorem Szs.nil : Szs 0 0 [] := ⟨rfl, Nat.le_refl _, Nat.le_refl _, rfl⟩
theorem Szs.one (a : Sz w k d) : Szs (w + 1) k [d] := ⟨by simp [PyData.leavesShortAll, a.lv], by have := a.wt; simp only [PyData.weightAll]; omega, by have := a.dp; simp only [PyData.depthAll]; omega, by simp [PyData.showableAll, a.sh]⟩
theorem Szs.take (a : Szs w k xs) (n : Nat) : Szs w k (xs.take n) := by
  rw [← List.take_append_drop n xs] at a
  exact a.parts.1
theorem Szs.drop (a : Szs w k xs) (n : Nat) : Szs w k (xs.drop n) := by
  rw [← List.take_append_drop n xs] at a
  exact a.parts.2
theorem Szs.mem (a : Szs w k xs) (h : d ∈ xs) : Sz w k d := by
  obtain ⟨l, r, rfl⟩ := List.append_of_mem h
  have b := (Szs.parts (xs := l) (ys := d :: r) a).2
  have c := (Szs.parts (xs := [d]) (ys := r) b).1
  obtain ⟨c1, c2, c3, c4⟩ := c
  simp only [PyData.leavesShortAll, PyData.weightAll, PyData.depthAll, PyData.showableAll, Bool.and_true] at c1 c2 c3 c4
  exact ⟨c1, by omega, by omega, c4⟩
theorem wtR : ∀ xs : List PyData, PyData.weightAll xs.reverse = PyData.weightAll xs
  | [] => rfl
  | x :: xs => by
    rw [List.reverse_cons, wtA, wtR xs]
    simp only [PyData.weightAll]
    omega
theorem Szs.rev (a : Szs w k xs) : Szs w k xs.reverse := by
  have b : ∀ {ys : List PyData}, Szs w k ys → PyData.leavesShortAll 40 ys.reverse = true ∧ PyData.depthAll ys.reverse ≤ k ∧ PyData.showableAll ys.reverse = true := by
    intro ys
    induction ys with
    | nil => exact fun _ => ⟨rfl, Nat.zero_le _, rfl⟩
    | cons y ys ih =>
      intro s
      obtain ⟨s1, s2⟩ := Szs.parts (xs := [y]) (ys := ys) s
      obtain ⟨i1, i2, i3⟩ := ih s2
      rw [List.reverse_cons, lvA, dpA, shA, i1, i3, s1.lv, s1.sh]
      exact ⟨rfl, Nat.max_le.mpr ⟨i2, s1.dp⟩, rfl⟩
  obtain ⟨b1, b2, b3⟩ := b a
  exact ⟨b1, by rw [wtR]; exact a.wt, b2, b3⟩
theorem Szs.tup (a : Szs w k ds) : Sz w (k + 1) (.tuple ds) := ⟨by simpa only [PyData.leavesShort] using a.lv, by simpa only [PyData.weight] using a.wt, by have := a.dp; simp only [PyData.depth]; omega, by simpa only [PyData.showable] using a.sh⟩
theorem Szs.lst (a : Szs w k ds) : Sz w (k + 1) (.list ds) := ⟨by simpa only [PyData.leavesShort] using a.lv, by simpa only [PyData.weight] using a.wt, by have := a.dp; simp only [PyData.depth]; omega, by simpa only [PyData.showable] using a.sh⟩
theorem Sz.items (a : Sz w k (.tuple ds)) : ∃ j, k = j + 1 ∧ Szs w j ds := by
  obtain ⟨a1, a2, a3, a4⟩ := a
  simp only [PyData.leavesShort, PyData.weight, PyData.depth, PyData.showable] at a1 a2 a3 a4
  exact ⟨k - 1, by omega, a1, a2, by omega, a4⟩
theorem Sz.dictA (a : Sz w k d) : Sz (w + 3) (k + 1) (.dict [(.str "a", d)]) := by
  have l : (PyData.str "a").leavesShort 40 = true := by decide +kernel
  have z : (PyData.str "a").weight = 1 := by decide +kernel
  have dd : (PyData.str "a").depth = 0 := by decide +kernel
  have ss : (PyData.str "a").showable = true := by decide +kernel
  obtain ⟨a1, a2, a3, a4⟩ := a
  refine ⟨?_, ?_, ?_, ?_⟩
  · simp only [PyData.leavesShort, PyData.leavesShortKv] at l ⊢
    simp only [l, a1, Bool.and_self]
  · simp only [PyData.weight, PyData.weightKv] at z ⊢
    omega
  · simp only [PyData.depth, PyData.depthKv] at dd ⊢
    omega
  · simp only [PyData.showable, PyData.showableKv] at ss ⊢
    simp only [a4, Bool.and_self]
theorem Sz.short (a : Sz w k d) (hw : w ≤ 1000000) : Sh d := by
  rintro x rfl
  have := a.wt
  simp only [PyData.weight] at this
  have : x.length = x.cps.size := rfl
  omega
theorem Sz.short1 (a : Sz w k d) (hw : w ≤ 1000000) : Sh1 d := by
  rintro ds rfl e he
  obtain ⟨j, _, s⟩ := a.items
  exact (s.mem he).short hw
theorem Sz.short2 (a : Sz w k d) (hw : w ≤ 1000000) : Sh2 d := by
  rintro ds rfl e he
  obtain ⟨j, _, s⟩ := a.items
  exact (s.mem he).short1 hw
end
end Xby

set_option Elab.async false
set_option linter.all false
set_option maxRecDepth 100000
set_option maxHeartbeats 4000000
/-! # t == (), parts of tuples of any items, what a table's making says of two values -/
namespace Xby
open PySem PySem.Spec PyProof.Rows L2
section
variable {X : Cx}
def rNilT (K : PySem.W.Frag) : R2 := fun x y H Q => ∃ a b xs, x = .ref a ∧ y = .ref b ∧ SqT K H a xs ∧ SqT K H b [] ∧ Q (.bl xs.isEmpty) H
theorem op_nilT (K : PySem.W.Frag) (hK : X.K = K) (hu : X.A.units < cLine) : OpR X (compareOp .Eq) (rNilT K) := by
  subst hK
  rintro pins s σ H x y v u Q I rx ry ⟨a, b, xs, rfl, rfl, ha, hb, q⟩
  obtain rfl : v = Value.ref a := rx
  obtain rfl : u = Value.ref b := ry
  obtain ⟨its, rv, p, _⟩ := I.tuple ha
  obtain ⟨its2, rv2, p2, _⟩ := I.tuple hb
  cases rv2
  have l := rv.length
  have e : ((List.range (min its.toArray.size (#[] : Array Value).size)).all (fun _ => true) && its.toArray.size == (#[] : Array Value).size) = xs.isEmpty := by
    cases xs with
    | nil =>
      cases rv
      rfl
    | cons z zs =>
      have : its.length ≠ 0 := by rw [← l]; simp
      simp [this]
  unfold compareOp
  refine SeqAt.RcAt.tuples p p2 hu (e := fun _ => true) (fun j h1 h2 => absurd h2 (by simp)) _ _ _ _ ?_
  rw [e]
  exact ⟨.bl xs.isEmpty, H, I, rfl, q⟩
end
section
variable {K : PySem.W.Frag} {H : Hp} {a b p : Addr} {xs ys : List V} {Q : VK} {n : Nat}
theorem seqWo (h : SqT K H a xs) (pot : Pot H p n) : SqT K (wo p H) a xs := by
  obtain ⟨_, _, _, q, _⟩ := pot
  rcases h with (h | ⟨o, h⟩) | ⟨o, i, j, h⟩
  · exact .inl (.inl (wo_at (by rintro rfl; rw [h] at q; cases q) h))
  · exact .inl (.inr ⟨o, wo_at (by rintro rfl; rw [h] at q; cases q) h⟩)
  · exact .inr ⟨o, i, j, h⟩
/-- a part of a tuple: at some address -/
theorem partT {lo hi : Option Int} (ha : SqT K H a xs) (k : ∀ c H', Same H H' → SqT K H' c (cutV xs lo hi) → Q (.ref c) H') : rSlA K (.ref a) lo hi H Q := by
  refine ⟨a, xs, rfl, ha, fun h => ?_, fun _ p np => k p _ (Same.one np) (SqT.of upd_same)⟩
  refine k a H (Same.refl H) ?_
  rw [cut_all h]
  exact ha
/-- a + b, tuples -/
theorem catT (ha : SqT K H a xs) (hb : SqT K H b ys) (few : xs.length + ys.length ≤ 1000000) (k : ∀ c H', Same H H' → SqT K H' c (xs ++ ys) → Q (.ref c) H') : rCatA K (.ref a) (.ref b) H Q := by
  refine ⟨a, b, xs, ys, rfl, rfl, ha, hb, ?_, fun h => ?_, fun _ h => ?_, fun _ _ p np => k p _ (Same.one np) (SqT.of upd_same)⟩
  · have : sizeLine = 16777216 := sizeLine_eq
    omega
  · subst h
    exact k b H (Same.refl H) hb
  · subst h
    refine k a H (Same.refl H) ?_
    rw [List.append_nil]
    exact ha
theorem cut_last : cutV xs none (some (-1)) = xs.take (xs.length - 1) := by
  unfold cutV
  have : HT.sIx xs.length xs.length (some (-1)) = xs.length - 1 := by
    unfold HT.sIx
    simp only [show ((-1 : Int) < 0) = True by simp, if_true]
    omega
  rw [HT.sIx_none, this, List.drop_zero, Nat.sub_zero]
theorem DqAll.add {xs ys : List V} {ds es : List PyData} (h : DqAll K H xs ds) (k : DqAll K H ys es) : DqAll K H (xs ++ ys) (ds ++ es) := by
  induction xs generalizing ds with
  | nil => cases h; exact k
  | cons x xs ih =>
    cases h with
    | cons a t => exact .cons a (ih t)
theorem DqAll.part {xs : List V} {ds : List PyData} (h : DqAll K H xs ds) (n : Nat) : DqAll K H (xs.take n) (ds.take n) ∧ DqAll K H (xs.drop n) (ds.drop n) := by
  induction xs generalizing ds n with
  | nil =>
    cases h
    simpa using DqAll.nil
  | cons x xs ih =>
    cases h with
    | cons a t =>
      cases n with
      | zero => exact ⟨.nil, .cons a t⟩
      | succ n => exact ⟨.cons a (ih t n).1, (ih t n).2⟩
theorem DqAll.back {xs : List V} {ds : List PyData} (h : DqAll K H xs ds) : DqAll K H xs.reverse ds.reverse := by
  induction xs generalizing ds with
  | nil => cases h; exact .nil
  | cons x xs ih =>
    cases h with
    | cons a t =>
      rw [List.reverse_cons, List.reverse_cons]
      exact (ih t).add (.cons a .nil)
end
/-! ## what the making of a table says -/
inductive Fk where
  | columns | rows | row | many | none
  deriving DecidableEq
def Fk.name : Fk → Str
  | .columns => "columns"
  | .rows => "rows"
  | .row => "row"
  | .many => "many"
  | .none => "none"
def firstBad (n : Nat) : List V → List PyData → Option V
  | v :: vs, d :: ds => if rowD n d then firstBad n vs ds else some v
  | _, _ => none
def wid : PyData → Nat
  | .tuple ds => ds.length
  | _ => 0
def due (vh vr : V) (dh dr : PyData) (xs : List V) : Fk × V :=
  if colsD dh then
    match dr with
    | .tuple rs => if 6 < rs.length then (.many, .int 6) else match firstBad (wid dh) xs rs with
      | some v => (.row, v)
      | none => (.none, .non)
    | _ => (.rows, vr)
  else (.columns, vh)
/-- the two values, and the items of the second one where it is a tuple -/
structure Two (K : PySem.W.Frag) (H : Hp) (vh vr : V) (dh dr : PyData) (xs : List V) : Prop where
  h : Dq K H vh dh
  r : Dq K H vr dr
  x : ∀ rs, dr = .tuple rs → ∃ a, vr = .ref a ∧ SqT K H a xs ∧ DqAll K H xs rs
  s1 : Sh1 dh
  s2 : Sh2 dr
section
variable {K : PySem.W.Frag} {H H' : Hp} {vh vr : V} {dh dr : PyData} {xs : List V}
theorem Two.same (t : Two K H vh vr dh dr xs) (s : Same H H') : Two K H' vh vr dh dr xs := ⟨t.h.same s, t.r.same s, fun rs e => by
  obtain ⟨a, e1, e2, e3⟩ := t.x rs e
  exact ⟨a, e1, e2.ext s, e3.same s⟩, t.s1, t.s2⟩
theorem two_of (h : Dq K H vh dh) (r : Dq K H vr dr) (s1 : Sh1 dh) (s2 : Sh2 dr) : ∃ xs, Two K H vh vr dh dr xs := by
  rcases r.isTup with ⟨a, xs, ds, rfl, rfl, hs, ha⟩ | ⟨_, _, _, no⟩
  · refine ⟨xs, h, r, fun rs e => ?_, s1, s2⟩
    obtain rfl : ds = rs := by injection e
    exact ⟨a, rfl, hs, ha⟩
  · exact ⟨[], h, r, fun rs e => absurd e (no rs), s1, s2⟩
theorem due_cols (n : colsD dh = false) : due vh vr dh dr xs = (.columns, vh) := by
  unfold due
  rw [n]
  rfl
theorem due_rows (c : colsD dh = true) (n : ∀ rs, dr ≠ .tuple rs) : due vh vr dh dr xs = (.rows, vr) := by
  unfold due
  rw [if_pos c]
  cases dr with
  | tuple rs => exact absurd rfl (n rs)
  | _ => rfl
theorem due_many {rs : List PyData} (c : colsD dh = true) (n : 6 < rs.length) : due vh vr dh (.tuple rs) xs = (.many, .int 6) := by
  unfold due
  rw [if_pos c]
  exact if_pos n
theorem due_row {rs : List PyData} {v : V} (c : colsD dh = true) (n : ¬ 6 < rs.length) (b : firstBad (wid dh) xs rs = some v) : due vh vr dh (.tuple rs) xs = (.row, v) := by
  unfold due
  rw [if_pos c]
  show (if 6 < rs.length then _ else _) = _
  rw [if_neg n, b]
theorem due_none {rs : List PyData} (c : colsD dh = true) (n : ¬ 6 < rs.length) (b : firstBad (wid dh) xs rs = none) : due vh vr dh (.tuple rs) xs = (.none, .non) := by
  unfold due
  rw [if_pos c]
  show (if 6 < rs.length then _ else _) = _
  rw [if_neg n, b]
theorem bad_at {n : Nat} : ∀ {xs : List V} {rs : List PyData} {i : Nat} {v : V} {d : PyData}, xs[i]? = some v → rs[i]? = some d → (∀ j e, j < i → rs[j]? = some e → rowD n e = true) → rowD n d = false → firstBad n xs rs = some v
  | [], _, _, _, _, e, _, _, _ => by simp at e
  | _ :: _, [], _, _, _, _, e, _, _ => by simp at e
  | x :: xs, r :: rs, 0, v, d, e1, e2, _, b => by
    obtain rfl : x = v := by simpa using e1
    obtain rfl : r = d := by simpa using e2
    unfold firstBad
    rw [b]
    rfl
  | x :: xs, r :: rs, i + 1, v, d, e1, e2, ok, b => by
    unfold firstBad
    rw [ok 0 r (Nat.succ_pos _) rfl, if_pos rfl]
    exact bad_at (by simpa using e1) (by simpa using e2) (fun j e hj he => ok (j + 1) e (Nat.succ_lt_succ hj) (by simpa using he)) b
theorem bad_no {n : Nat} : ∀ {xs : List V} {rs : List PyData}, (∀ e ∈ rs, rowD n e = true) → firstBad n xs rs = none
  | [], _, _ => by unfold firstBad; rfl
  | _ :: _, [], _ => by unfold firstBad; rfl
  | x :: xs, r :: rs, ok => by
    unfold firstBad
    rw [ok r List.mem_cons_self, if_pos rfl]
    exact bad_no fun e he => ok e (List.mem_cons_of_mem _ he)
/-- what is told is data, no greater -/
theorem due_data {w k : Nat} (t : Two K H vh vr dh dr xs) (zh : Sz w k dh) (zr : Sz w k dr) (hw : 3 ≤ w) : ∃ d, Dq K H (due vh vr dh dr xs).2 d ∧ Sz w k d := by
  have six : Sz w k (.int 6) := (show Sz 3 0 (.int 6) by decide +kernel).more hw (Nat.zero_le _)
  by_cases c : colsD dh = true
  · rcases t.r.isTup with ⟨a, xs', ds, _, e, _, _⟩ | ⟨_, _, _, no⟩
    · subst e
      obtain ⟨a, rfl, hs, ha⟩ := t.x ds rfl
      by_cases m : 6 < ds.length
      · rw [due_many c m]
        exact ⟨_, .int 6, six⟩
      · cases b : firstBad (wid dh) xs ds with
        | none =>
          rw [due_none c m b]
          exact ⟨_, .non, (show Sz 0 0 .none by decide +kernel).more (by omega) (Nat.zero_le _)⟩
        | some v =>
          rw [due_row c m b]
          have mem : ∀ {xs : List V} {rs : List PyData}, DqAll K H xs rs → firstBad (wid dh) xs rs = some v → ∃ d ∈ rs, Dq K H v d := by
            intro xs
            induction xs with
            | nil => exact fun h b => by unfold firstBad at b; cases b
            | cons x xs ih =>
              intro rs h b
              cases h with
              | cons a1 a2 =>
                unfold firstBad at b
                split at b
                · obtain ⟨d, hd, q⟩ := ih a2 b
                  exact ⟨d, List.mem_cons_of_mem _ hd, q⟩
                · obtain rfl : x = v := Option.some.inj b
                  exact ⟨_, List.mem_cons_self, a1⟩
          obtain ⟨d, hd, q⟩ := mem ha b
          obtain ⟨j, rfl, s⟩ := zr.items
          exact ⟨d, q, (s.mem hd).more (Nat.le_refl _) (Nat.le_succ _)⟩
    · rw [due_rows c no]
      exact ⟨_, t.r, zr⟩
  · rw [due_cols (Bool.eq_false_iff.mpr c)]
    exact ⟨_, t.h, zh⟩
end
end Xby

set_option Elab.async false
set_option linter.all false
set_option maxRecDepth 100000
set_option maxHeartbeats 4000000
/-! # values that are data beside the drawer -/
namespace Xby
open PySem L2
def Okd (K : PySem.W.Frag) (p : Addr) (w k : Nat) (H : Hp) (x : V) : Prop := ∃ d, Dq K (wo p H) x d ∧ Sz w k d
section
variable {K : PySem.W.Frag} {p a : Addr} {w k n : Nat} {H H' : Hp} {x v : V} {l xs : List V} {ds : List PyData} {d : PyData}
theorem Okd.but (h : Okd K p w k H x) (b : But p H H') : Okd K p w k H' x := by
  obtain ⟨d, q, z⟩ := h
  exact ⟨d, q.same (wo_but b), z⟩
theorem all_but (h : ∀ x ∈ l, Okd K p w k H x) (b : But p H H') : ∀ x ∈ l, Okd K p w k H' x := fun x hx => (h x hx).but b
theorem all_add (h : ∀ x ∈ l, Okd K p w k H x) (a : Okd K p w k H v) : ∀ x ∈ v :: l, Okd K p w k H x := fun x hx => by
  rcases List.mem_cons.mp hx with rfl | hx
  · exact a
  · exact h x hx
theorem newTup (pot : Pot H p n) (na : H a = none) (h : DqAll K (wo p H) xs ds) : Dq K (wo p (upd H a (.tup xs))) (.ref a) (.tuple ds) :=
  .tup (SqT.of (wo_at (pot.ne na).symm upd_same)) (h.same (wo_but (But.of (Same.one na))))
theorem newLst (pot : Pot H p n) (na : H a = none) (sm : sysModules ≠ a) (h : DqAll K (wo p H) xs ds) : Dq K (wo p (upd H a (.lst xs))) (.ref a) (.list ds) :=
  .lst (wo_at (pot.ne na).symm upd_same) sm (h.same (wo_but (But.of (Same.one na))))
theorem newDct (pot : Pot H p n) (na : H a = none) : Dq K (wo p (upd H a (.dK []))) (.ref a) (.dict []) :=
  .dct (wo_at (pot.ne na).symm upd_same) .nil
theorem tupAt (pot : Pot H p n) (ha : SqT K H a xs) (h : DqAll K (wo p H) xs ds) : Dq K (wo p H) (.ref a) (.tuple ds) := .tup (seqWo ha pot) h
theorem DqAll.nil' {K : PySem.W.Frag} {H : Hp} : DqAll K H [] [] := .nil
end
end Xby
namespace Xby
open PySem L2
/-- the thing (a tuple), the list so far, what was made since -/
structure Bag (K : PySem.W.Frag) (p : Addr) (n w k : Nat) (H : Hp) (a : Addr) (xs : List V) (ds : List PyData) (L : Addr) (I : List V) (Hc : Hp) (items : List V) : Prop where
  pot : Pot Hc p n
  but : But p H Hc
  hs : SqT K (wo p Hc) a xs
  ha : DqAll K (wo p Hc) xs ds
  hl : Hc L = some (.lst I)
  g : ∀ x ∈ I, Okd K p w k Hc x
  gi : ∀ x ∈ items, Okd K p w k Hc x
section
variable {K : PySem.W.Frag} {p a L c : Addr} {n w k : Nat} {H Hc Hd : Hp} {xs I items ys : List V} {ds es : List PyData} {v : V}
theorem Bag.same (b : Bag K p n w k H a xs ds L I Hc items) (s : Same Hc Hd) : Bag K p n w k H a xs ds L I Hd items :=
  ⟨b.pot.same s, b.but.same s, b.hs.ext (wo_but (But.of s)), b.ha.same (wo_but (But.of s)), s _ _ b.hl, all_but b.g (But.of s), all_but b.gi (But.of s)⟩
theorem Bag.add (b : Bag K p n w k H a xs ds L I Hc items) (o : Okd K p w k Hc v) : Bag K p n w k H a xs ds L I Hc (v :: items) := ⟨b.pot, b.but, b.hs, b.ha, b.hl, b.g, all_add b.gi o⟩
/-- a tuple made of what the thing holds -/
theorem Bag.tup (b : Bag K p n w k H a xs ds L I Hc items) (s : Same Hc Hd) (hc : SqT K Hd c ys) (h : DqAll K (wo p Hc) ys es) (z : Sz w k (.tuple es)) : Bag K p n w k H a xs ds L I Hd (.ref c :: items) :=
  (b.same s).add ⟨_, tupAt (b.pot.same s) hc (h.same (wo_but (But.of s))), z⟩
theorem Bag.hsc (b : Bag K p n w k H a xs ds L I Hc items) : SqT K Hc a xs := b.hs.ext wo_same
end
theorem Szs.len {w k : Nat} : ∀ {ds : List PyData}, Szs w k ds → ds.length ≤ w
  | [], _ => Nat.zero_le _
  | d :: ds, s => by
    have a := s.wt
    simp only [PyData.weightAll] at a
    have b := Szs.len (w := w - 1) (k := k) (ds := ds) ⟨by have := s.lv; simp only [PyData.leavesShortAll, Bool.and_eq_true] at this; exact this.2, by omega, by have := s.dp; simp only [PyData.depthAll] at this; omega, by have := s.sh; simp only [PyData.showableAll, Bool.and_eq_true] at this; exact this.2⟩
    simp only [List.length_cons]
    omega
end Xby
namespace Xby
open PySem L2
/-- one item otherwise -/
theorem Szs.other {w j : Nat} {ds : List PyData} {i : Nat} {e d : PyData} (s : Szs w j ds) (hi : ds[i]? = some e) (z : Sz (2 * e.weight + 113) (j + 2) d) : Szs (2 * w + 113) (j + 2) (ds.take i ++ [d] ++ ds.drop (i + 1)) := by
  obtain ⟨hl, he⟩ := List.getElem?_eq_some_iff.mp hi
  have split : ds = ds.take i ++ ([e] ++ ds.drop (i + 1)) := by
    rw [← he]
    have := List.drop_eq_getElem_cons hl
    rw [List.singleton_append, ← this, List.take_append_drop]
  have wt := s.wt
  rw [split, wtA, wtA] at wt
  have w1 : PyData.weightAll [e] = e.weight + 1 := by simp [PyData.weightAll]
  have a := (s.take i).more (Nat.le_refl _) (show j ≤ j + 2 by omega)
  have b := (s.drop (i + 1)).more (Nat.le_refl _) (show j ≤ j + 2 by omega)
  have c := Szs.one z
  have all := (a.add c).add b
  refine ⟨all.lv, ?_, all.dp, all.sh⟩
  rw [wtA, wtA]
  have w2 : PyData.weightAll [d] = d.weight + 1 := by simp [PyData.weightAll]
  have := z.wt
  omega
theorem Sz.self {w j : Nat} {e : PyData} (z : Sz w j e) : Sz e.weight j e := ⟨z.lv, Nat.le_refl _, z.dp, z.sh⟩
end Xby

set_option linter.all false
/-! # plain facts about lists of ints -/
namespace Xby
theorem count_nodup {l ys : List Int} (nd : l.Nodup) (m : ∀ k, k ∈ l ↔ k ∈ ys) : l.length = ys.length ↔ ys.Nodup := by
  constructor
  · intro e
    rw [List.nodup_iff_count]
    intro a
    by_cases h : ys.count a ≤ 1
    · exact h
    · exfalso
      have ha : a ∈ ys := List.count_pos_iff.mp (by omega)
      have hb : a ∈ ys.erase a := List.count_pos_iff.mp (by rw [List.count_erase_self]; omega)
      have sub : l ⊆ ys.erase a := fun k hk => by
        by_cases c : k = a
        · rw [c]; exact hb
        · exact (List.mem_erase_of_ne c).mpr ((m k).mp hk)
      have := nd.length_le_of_subset sub
      rw [List.length_erase_of_mem ha] at this
      have : 0 < ys.length := List.length_pos_of_mem ha
      omega
  · intro n
    have a := nd.length_le_of_subset fun k hk => (m k).mp hk
    have b := n.length_le_of_subset fun k hk => (m k).mpr hk
    omega
theorem rise_iff : ∀ {l : List Int}, (∀ k (h : k + 1 < l.length), l[k] < l[k + 1]) ↔ l.Pairwise (· < ·)
  | [] => by simp
  | [x] => by simp
  | x :: y :: l => by
    have ih := rise_iff (l := y :: l)
    rw [List.pairwise_cons]
    constructor
    · intro h
      have p := ih.mp fun k hk => by
        have := h (k + 1) (by simpa using hk)
        simpa using this
      refine ⟨fun z hz => ?_, p⟩
      have xy : x < y := h 0 (by simp)
      rcases List.mem_cons.mp hz with rfl | hz
      · exact xy
      · exact Int.lt_trans xy (List.rel_of_pairwise_cons p hz)
    · rintro ⟨a, p⟩ k hk
      cases k with
      | zero => exact a y List.mem_cons_self
      | succ k =>
        have hk' : k + 1 < (y :: l).length := by simpa using hk
        exact ih.mpr p k hk'
theorem asc_unique {a b : List Int} (ha : a.Pairwise (· < ·)) (hb : b.Pairwise (· < ·)) (m : ∀ k, k ∈ a ↔ k ∈ b) : a = b := by
  have na : a.Nodup := ha.imp fun h => Int.ne_of_lt h
  have nb : b.Nodup := hb.imp fun h => Int.ne_of_lt h
  have p : a.Perm b := (List.perm_ext_iff_of_nodup na nb).mpr m
  exact p.eq_of_pairwise (le := (· < ·)) (fun x y _ _ h1 h2 => absurd (Int.lt_trans h1 h2) (Int.lt_irrefl _)) ha hb
/-- pairs of places: ascending, none twice -/
def okPs (ps : List (Int × Int)) : Bool := decide ((ps.map (·.1)).Pairwise (· < ·)) && decide (ps.map (·.2)).Nodup
end Xby

set_option Elab.async false
set_option linter.all false
set_option maxRecDepth 100000
set_option maxHeartbeats 4000000
/-! # set(l), l a list of ints; its length; t != (); targets that are tuples -/
namespace Xby
open PySem PySem.Spec PyProof.Rows L2
section
variable {prog : Program} {w : World} {A : Around} {E : Value → Shared → Prop} {s : Shared}
abbrev newSet (w : World) : Obj := { cls := .type "set", dict := none, data := .set #[] 0 (.fresh 0 0 (!w.params.followText "set-order")) }
set_option maxHeartbeats 3200000 in
theorem set_of_ints {l : Addr} {us : Array Value} {ys : List Int} {Q : Value → Shared → Prop} (hh : A.handled = none) (hl : s.heap.IsList l us) (hi : IntsAre us.toList ys) (few : ys.length + 1 < scanBound)
    (q : ∀ (h2 : Heap) (tk c : Nat), SetR w h2 s.heap.objs.size (fun j => decide (j ∈ ys)) c → c ≤ ys.length → (∀ b o, s.heap.get? b = some o → h2.get? b = some o) → Q (.ref s.heap.objs.size) { s with heap := h2, toks := tk }) :
    wpAny (model prog w) A (call (.type "set") [.ref l]) Q E s := by
  have lenU : us.size = ys.length := by
    have z := IntsAre.length hi
    rw [Array.length_toList] at z
    exact z
  obtain ⟨cc, tl, mro⟩ := PySem.F.called_set.mro
  have made := PySem.F.called_set.made
  have sub := PySem.F.called_set.sub
  have nt := PySem.F.called_set.notType
  have cr := PySem.F.called_set.canCreate
  have ct := PySem.F.typeCall_set_1 (.ref l)
  refine wpAny_call (codeAny_of_tree ?_)
  change wpAny _ _ (callAny (.type "set") _) _ _ _
  refine wpAny_pure ⟨Code.quiet_builtin _ (by decide +kernel), codeAny_builtin PySem.F.entry_type_call ?_⟩
  rw [Around.under_plain (weight_type_call_type "set" [.ref l] []) rfl]
  repeat (any_goals (first | assumption | wp_step))
  refine codeAny_mono (code_set_led1 (w := w) (.ref l) (E := E) (Q₁ := fun u s1 => u = .ref s.heap.objs.size ∧ s1 = { s with heap := s.heap.push (newSet w) }) ⟨rfl, rfl⟩) fun r s1 hr => ?_
  cases r with
  | error e => exact hr
  | ok fl =>
    cases fl with
    | ret u =>
      obtain ⟨rfl, rfl⟩ := hr
      have new : (s.heap.push (newSet w)).get? s.heap.objs.size = some (newSet w) := Heap.get?_push_size _ rfl
      have ty : Shared.TypeIs { s with heap := s.heap.push (newSet w) } (.ref s.heap.objs.size) "set" := ⟨_, new, rfl⟩
      have lk := PySem.F.called_set.init.lookup
      have bd := PySem.F.called_set.init.bind (.ref s.heap.objs.size)
      repeat (any_goals (first | assumption | wp_step))
      refine codeAny_mono (codeAny_call_builtin (R := wants (fun r s2 => r = .none ∧ ∃ h2 tk c, s2 = { s with heap := h2, toks := tk } ∧ SetR w h2 s.heap.objs.size (fun j => decide (j ∈ ys)) c ∧ c ≤ ys.length ∧
        (∀ b o, s.heap.get? b = some o → h2.get? b = some o)) E) PySem.F.called_set.init.plain PySem.F.entry_set_init (check_set_init_1 ty ?_)) fun r2 s2 hr2 => ?_
      · obtain ⟨⟨tc, td, tdata, tsl⟩, g, hc, nl, hd⟩ := hl
        simp only at hc hd
        subst hc hd
        have ls : l < s.heap.objs.size := Heap.lt_size g
        have g1 : (s.heap.push (newSet w)).get? l = some { cls := .type "list", dict := td, data := .seq us nl, slots := tsl } := Heap.get?_push_of_some _ g
        have st := PySem.F.sub_list_set
        have sf := PySem.F.sub_list_frozenset
        have nd : (Value.type "list" == Value.type "dict") = false := by decide
        have lst1 : (s.heap.push (newSet w)).IsList l us := ⟨_, g1, rfl, nl, rfl⟩
        unfold Builtin.«set.__init__» noKeywords Builtin.Frozenset.updateFrom
        generalize e : pyIter = it
        wp_walk
        subst e
        refine wpAny_pyIter_list lst1 (wpAny_bind (wpAny_runValue ?_))
        have h3 : A.in1.in1.in1.handled = none := by simp [hh]
        have ne : l ≠ (s.heap.push (newSet w)).objs.size := by
          rw [Heap.size_push]
          exact Nat.ne_of_lt (Nat.lt_succ_of_lt ls)
        have nf : s.heap.objs.size ∉ [(s.heap.push (newSet w)).objs.size, l] := by
          rw [Heap.size_push]
          simp only [List.mem_cons, List.not_mem_nil, or_false, not_or]
          exact ⟨Nat.ne_of_lt (Nat.lt_succ_self _), Nat.ne_of_gt ls⟩
        have val : ∀ (i : Nat) (v : Value), us[i]? = some v → ∃ k t, ys[i]? = some k ∧ v = .int k t := fun i v hv => by
          have hi' : i < ys.length := by rw [← lenU]; exact (Array.getElem?_eq_some_iff.mp hv).1
          obtain ⟨t, e⟩ := PyProof.Rows.IntsAre.int_at hi i v (by rw [Array.getElem?_toList]; exact hv)
          refine ⟨ys[i], t, List.getElem?_eq_getElem hi', ?_⟩
          rw [e, List.getD_eq_getElem?_getD, List.getElem?_eq_getElem hi'] <;> rfl
        refine set_update_ints ((Walks.list h3 _ l ne us).toS) s.heap.objs.size nf ys lenU few val (us.size - 0) 0 _ (by omega) (Nat.zero_le _) ⟨⟨_, Heap.get?_push_size _ rfl, rfl, rfl⟩, lst1.push _⟩ ?_ ?_
        · have g2 : ((s.heap.push (newSet w)).push { cls := .type "list_iterator", data := .fields #[.ref l, .int 0 0] }).get? s.heap.objs.size = some (newSet w) := Heap.get?_push_of_some _ new
          exact ⟨0, Nat.le_refl 0, setR_new_at g2⟩
        · rintro ⟨h2, g2, d2, t2, o2⟩ c2 mv c3 so
          obtain rfl : g2 = s.gens := mv.gens
          obtain rfl : d2 = s.drawn := mv.drawn
          obtain rfl : o2 = s.os := mv.os
          change wpAny _ _ _ _ _ _
          refine wpAny_pure ?_
          change wpAny _ _ (ret Value.none) _ _ _
          rw [lenU] at c3
          refine wpAny_pure ⟨rfl, h2, t2, c2, rfl, so, c3, fun b o e => ?_⟩
          have hb := Heap.lt_size e
          refine mv.heap b o ?_ (Heap.get?_push_of_some _ (Heap.get?_push_of_some _ e))
          rw [Heap.size_push]
          simp only [List.mem_cons, List.not_mem_nil, or_false, not_or]
          exact ⟨Nat.ne_of_lt hb, Nat.ne_of_lt (Nat.lt_succ_of_lt hb)⟩
      · cases r2 with
        | error e => exact hr2
        | ok fl2 =>
          cases fl2 with
          | ret r =>
            obtain ⟨rfl, h2, tk, c2, rfl, so, c3, k⟩ := hr2
            repeat (any_goals (first | assumption | wp_step))
            exact q _ _ _ so c3 k
          | _ => exact hr2.elim
    | _ => exact hr.elim
end
/-- how many different ones -/
theorem setR_count {w : World} {h : Heap} {a : Addr} {ys : List Int} {c : Nat} (R : SetR w h a (fun j => decide (j ∈ ys)) c) : c = ys.length ↔ ys.Nodup := by
  obtain ⟨o, es, ep, t, _, _, _, _, nd, mem, _, _, hc, _⟩ := R
  have m : ∀ k, k ∈ es.toList.map keyOf ↔ k ∈ ys := fun k => by
    rw [← mem k]
    simp
  have l1 : (es.toList.map keyOf).length = c := by rw [List.length_map, Array.length_toList, hc]
  rw [← l1]
  exact count_nodup nd m
theorem setR_within {w : World} {h : Heap} {a : Addr} {ys : List Int} {c : Nat} (R : SetR w h a (fun j => decide (j ∈ ys)) c) (zs : List Int) (sub : ys ⊆ zs) : c ≤ zs.length := by
  obtain ⟨o, es, ep, t, _, _, _, _, nd, mem, _, _, hc, _⟩ := R
  have l1 : (es.toList.map keyOf).length = c := by rw [List.length_map, Array.length_toList, hc]
  rw [← l1]
  refine nd.length_le_of_subset fun k hk => sub ?_
  have := (mem k).mpr hk
  simpa using this
section
variable {X : Cx}
def rSetL (K : PySem.W.Frag) (w : World) : List V → Hp → VK → Prop := fun xs H Q => ∃ (l : Addr) (ys : List Int), xs = [.ref l] ∧ SqL K H l (ys.map V.int) ∧ ys.length ≤ 1000 ∧
  ∀ p c, H p = none → c ≤ ys.length → (c = ys.length ↔ ys.Nodup) → (∀ zs : List Int, ys ⊆ zs → c ≤ zs.length) → Q (.ref p) (upd H p (SetO w p (fun j => decide (j ∈ ys)) c))
theorem call_setL (K : PySem.W.Frag) (w : World) (hK : X.K = K) (hw : X.w = w) (hc : X.calm = true) : CallR X (.type "set") (rSetL K w) := by
  subst hK hw
  rintro pins s σ H xs us Q I rv ⟨l, ys, rfl, hq, few, q⟩
  obtain ⟨u, rfl, r⟩ := vals1 rv
  cases r
  obtain ⟨its, rr, pl, _⟩ := I.list hq
  have hi := ints_of_vals rr
  have fits : ys.length + 1 < scanBound := by
    unfold scanBound
    omega
  refine set_of_ints (I.ok.hd hc) pl.isList (by simpa using hi) fits fun h2 tk c R c1 k => ?_
  have J : Inv X pins σ (upd H s.heap.objs.size (SetO X.w s.heap.objs.size (fun j => decide (j ∈ ys)) c)) { s with heap := h2, toks := tk } := I.laid (t' := tk) k (Nat.le_refl _) (setO_new (P := X.prog) (H := H) R)
  exact ⟨.ref _, _, J, rfl, q _ c (I.hok.fresh (Nat.le_refl _)) c1 (setR_count R) (setR_within R)⟩
def rLenS (w : World) : List V → Hp → VK → Prop := fun xs H Q => ∃ (a : Addr) (S : Int → Bool) (n : Nat), xs = [.ref a] ∧ H a = some (SetO w a S n) ∧ n < 1000000 ∧ Q (.int n) H
theorem call_lenS (w : World) (hw : X.w = w) : CallR X (.builtin "len") (rLenS w) := by
  subst hw
  rintro pins s σ H xs us Q I rv ⟨a, S, n, rfl, ha, few, q⟩
  obtain ⟨u, rfl, r⟩ := vals1 rv
  cases r
  obtain ⟨o, es, ep, t, ho, ex, hd, _, _, _, _, hf, hn, _⟩ := setO_get I ha
  refine call_len_set ho ex hd hf (by rw [hn]; omega) ⟨.int n, H, I.tok _, ⟨_, by rw [hn]⟩, q⟩
theorem cr_sortedSetK (w : World) (hw : X.w = w) (hc : X.calm = true) : CallR X (.builtin "sorted") (rSortedSet w) := by
  subst hw
  exact cr_sortedSet hc
/-- t != () -/
def rNeNilT (K : PySem.W.Frag) : R2 := fun x y H Q => ∃ a b xs, x = .ref a ∧ y = .ref b ∧ SqT K H a xs ∧ SqT K H b [] ∧ Q (.bl (!xs.isEmpty)) H
theorem op_neNilT (K : PySem.W.Frag) (hK : X.K = K) (hu : X.A.units + 64 < cLine) : OpR X (compareOp .NotEq) (rNeNilT K) := by
  subst hK
  rintro pins s σ H x y v u Q I rx ry ⟨a, b, xs, rfl, rfl, ha, hb, q⟩
  obtain rfl : v = Value.ref a := rx
  obtain rfl : u = Value.ref b := ry
  obtain ⟨its, rv, p, _⟩ := I.tuple ha
  obtain ⟨its2, rv2, p2, _⟩ := I.tuple hb
  cases rv2
  have l := rv.length
  have e : (!((List.range (min its.toArray.size (#[] : Array Value).size)).all (fun _ => true) && its.toArray.size == (#[] : Array Value).size)) = !xs.isEmpty := by
    cases xs with
    | nil =>
      cases rv
      rfl
    | cons z zs =>
      have : its.length ≠ 0 := by rw [← l]; simp
      simp [this]
  unfold compareOp
  refine SeqAt.RcNeAt.tuples p p2 (by omega) (e := fun _ => true) (fun j h1 h2 => absurd h2 (by simp)) _ _ _ _ ?_
  rw [e]
  exact ⟨.bl (!xs.isEmpty), H, I, rfl, q⟩
theorem pg_tupK (K : PySem.W.Frag) (hK : X.K = K) {es : List Expr} {k : Nat} {t : TGs} {n : Nat} {pos : Pos} (hc : X.calm = true) (h : PGs X es t)
    (hn : (assignEach es X.env).length = n := by rfl) (hst : (assignEach es X.env).findIdx? (·.1) = none := by rfl) : PG X (.Tuple es k pos) (gTup K n t) := by
  subst hK
  exact pg_tup hc h hn hst
end
end Xby

set_option Elab.async false
set_option linter.all false
set_option maxRecDepth 100000
set_option maxHeartbeats 4000000
namespace Xby
open PySem PySem.Spec PyProof.Rows L2
/-! ## comprehensions whose elements are told beforehand, in a heap that only grows -/
section
variable {J : It} {n : Nat} {G : Hp → Prop} {Y : Nat → Hp → V → Hp → Prop}
/-- what stands in the list behind the first m turns -/
def kept (f : Nat → V) (p : Nat → Bool) (m : Nat) : List V := ((List.range m).filter p).map f
theorem kept_len (f : Nat → V) (p : Nat → Bool) (m : Nat) : (kept f p m).length ≤ m := by
  unfold kept
  rw [List.length_map]
  exact Nat.le_trans (List.length_filter_le _ _) (by simp)
theorem kept_succ (f : Nat → V) (p : Nat → Bool) (m : Nat) : kept f p (m + 1) = kept f p m ++ (if p m then [f m] else []) := by
  unfold kept
  rw [List.range_succ, List.filter_append, List.map_append]
  congr 1
  cases h : p m <;> simp [h]
theorem lc_grow (w : Walk J n G Y) {g : TG} {tt : TT} {te : TE} {vs : List Nat} {σ : L2.St} {H1 : Hp} {D : Addr} {Qd : Hp → Prop} (nD : H1 D = none) (few : n < sizeLine) (f : Nat → V) (p : Nat → Bool)
    (hG : ∀ H', Same H1 H' → G H')
    (hs : ∀ i x H H' (Z : VK) (N : Hp → Prop), i < n → Same H1 H → Y i H x H' → (∀ H'', Same H H'' → p i = true → Z (f i) H'') → (∀ H'', Same H H'' → p i = false → N H'') →
      g x (wipe σ vs) H' fun σ2 H2 => wipe σ2 vs = wipe σ vs ∧ tt σ2 H2 fun b H3 => if b = true then te σ2 H3 Z else N H3)
    (hd : ∀ H, Same H1 H → H D = some (.lst (kept f p n)) → Qd H) :
    ∃ W : Nat → Nat → Hp → Prop, (∃ m, W 0 m (upd H1 D (.lst []))) ∧ ∀ i m H, W i m H →
      (J.stop i H ∧ Qd H) ∨ (J.go i H ∧ ∃ Nx : Hp → Prop, (∀ H', Nx H' → ∃ m', m' < m ∧ W (i + 1) m' H') ∧ ∀ x H', J.yld i H x H' → g x (wipe σ vs) H' fun σ2 H2 => wipe σ2 vs = wipe σ vs ∧ tt σ2 H2 fun b H3 =>
        if b = true then te σ2 H3 fun y H4 => ∃ acc, H4 D = some (.lst acc) ∧ acc.length < sizeLine ∧ Nx (upd H4 D (.lst (acc ++ [y]))) else Nx H3) := by
  refine lc_it w (fun i H => i ≤ n ∧ Same H1 H ∧ H D = some (.lst (kept f p i))) ⟨Nat.zero_le _, Same.one nD, upd_same⟩ (fun i H _ z => hG H z.2.1) ?_ (fun H z => hd H z.2.1 z.2.2)
  rintro i x H H' hi ⟨hi', s1, hD⟩ y
  refine hs i x H H' _ _ hi s1 y (fun H'' s2 pi => ⟨_, s2 _ _ hD, Nat.lt_of_le_of_lt (kept_len _ _ _) (by omega), hi, ?_, ?_⟩) (fun H'' s2 pi => ⟨hi, s1.trans s2, ?_⟩)
  · exact Same.updN (s1.trans s2) nD
  · rw [upd_same, kept_succ, pi]
    rfl
  · rw [s2 _ _ hD, kept_succ, pi]
    simp
end
/-! over a tuple, a list, a range -/
section
variable {K : PySem.W.Frag} {a : Addr} {xs : List V} {g : TG} {tt : TT} {te : TE} {vs : List Nat} {σ : L2.St} {H1 : Hp} {D : Addr} {Qd : Hp → Prop}
theorem lc_growT (hx : SqT K H1 a xs) (nD : H1 D = none) (few : xs.length < sizeLine) (f : Nat → V) (p : Nat → Bool)
    (hs : ∀ i x H (Z : VK) (N : Hp → Prop), xs[i]? = some x → Same H1 H → (∀ H'', Same H H'' → p i = true → Z (f i) H'') → (∀ H'', Same H H'' → p i = false → N H'') →
      g x (wipe σ vs) H fun σ2 H2 => wipe σ2 vs = wipe σ vs ∧ tt σ2 H2 fun b H3 => if b = true then te σ2 H3 Z else N H3)
    (hd : ∀ H, Same H1 H → H D = some (.lst (kept f p xs.length)) → Qd H) :
    ∃ W : Nat → Nat → Hp → Prop, (∃ m, W 0 m (upd H1 D (.lst []))) ∧ ∀ i m H, W i m H →
      ((Itt K a).stop i H ∧ Qd H) ∨ ((Itt K a).go i H ∧ ∃ Nx : Hp → Prop, (∀ H', Nx H' → ∃ m', m' < m ∧ W (i + 1) m' H') ∧ ∀ x H', (Itt K a).yld i H x H' → g x (wipe σ vs) H' fun σ2 H2 => wipe σ2 vs = wipe σ vs ∧ tt σ2 H2 fun b H3 =>
        if b = true then te σ2 H3 fun y H4 => ∃ acc, H4 D = some (.lst acc) ∧ acc.length < sizeLine ∧ Nx (upd H4 D (.lst (acc ++ [y]))) else Nx H3) := by
  refine lc_tup (K := K) (a := a) (xs := xs) (fun i H => i ≤ xs.length ∧ Same H1 H ∧ H D = some (.lst (kept f p i))) ⟨Nat.zero_le _, Same.one nD, upd_same⟩ (fun i H _ z => hx.ext z.2.1) ?_ (fun H z => hd H z.2.1 z.2.2)
  rintro i x H hi ⟨hi', s1, hD⟩
  have il := (List.getElem?_eq_some_iff.mp hi).1
  refine hs i x H _ _ hi s1 (fun H'' s2 pi => ⟨_, s2 _ _ hD, Nat.lt_of_le_of_lt (kept_len _ _ _) (by omega), il, ?_, ?_⟩) (fun H'' s2 pi => ⟨il, s1.trans s2, ?_⟩)
  · exact Same.updN (s1.trans s2) nD
  · rw [upd_same, kept_succ, pi]
    rfl
  · rw [s2 _ _ hD, kept_succ, pi]
    simp
theorem lc_growL (hx : SqL K H1 a xs) (nD : H1 D = none) (few : xs.length < sizeLine) (f : Nat → V) (p : Nat → Bool)
    (hs : ∀ i x H (Z : VK) (N : Hp → Prop), xs[i]? = some x → Same H1 H → (∀ H'', Same H H'' → p i = true → Z (f i) H'') → (∀ H'', Same H H'' → p i = false → N H'') →
      g x (wipe σ vs) H fun σ2 H2 => wipe σ2 vs = wipe σ vs ∧ tt σ2 H2 fun b H3 => if b = true then te σ2 H3 Z else N H3)
    (hd : ∀ H, Same H1 H → H D = some (.lst (kept f p xs.length)) → Qd H) :
    ∃ W : Nat → Nat → Hp → Prop, (∃ m, W 0 m (upd H1 D (.lst []))) ∧ ∀ i m H, W i m H →
      ((Itl K a).stop i H ∧ Qd H) ∨ ((Itl K a).go i H ∧ ∃ Nx : Hp → Prop, (∀ H', Nx H' → ∃ m', m' < m ∧ W (i + 1) m' H') ∧ ∀ x H', (Itl K a).yld i H x H' → g x (wipe σ vs) H' fun σ2 H2 => wipe σ2 vs = wipe σ vs ∧ tt σ2 H2 fun b H3 =>
        if b = true then te σ2 H3 fun y H4 => ∃ acc, H4 D = some (.lst acc) ∧ acc.length < sizeLine ∧ Nx (upd H4 D (.lst (acc ++ [y]))) else Nx H3) := by
  refine lc_list (K := K) (a := a) (xs := xs) (fun i H => i ≤ xs.length ∧ Same H1 H ∧ H D = some (.lst (kept f p i))) ⟨Nat.zero_le _, Same.one nD, upd_same⟩ (fun i H _ z => hx.ext z.2.1) ?_ (fun H z => hd H z.2.1 z.2.2)
  rintro i x H hi ⟨hi', s1, hD⟩
  have il := (List.getElem?_eq_some_iff.mp hi).1
  refine hs i x H _ _ hi s1 (fun H'' s2 pi => ⟨_, s2 _ _ hD, Nat.lt_of_le_of_lt (kept_len _ _ _) (by omega), il, ?_, ?_⟩) (fun H'' s2 pi => ⟨il, s1.trans s2, ?_⟩)
  · exact Same.updN (s1.trans s2) nD
  · rw [upd_same, kept_succ, pi]
    rfl
  · rw [s2 _ _ hD, kept_succ, pi]
    simp
theorem lc_growR {lo : Int} {n : Nat} (nD : H1 D = none) (few : n < sizeLine) (f : Nat → V) (p : Nat → Bool)
    (hs : ∀ i H (Z : VK) (N : Hp → Prop), i < n → Same H1 H → (∀ H'', Same H H'' → p i = true → Z (f i) H'') → (∀ H'', Same H H'' → p i = false → N H'') →
      g (.int (lo + i)) (wipe σ vs) H fun σ2 H2 => wipe σ2 vs = wipe σ vs ∧ tt σ2 H2 fun b H3 => if b = true then te σ2 H3 Z else N H3)
    (hd : ∀ H, Same H1 H → H D = some (.lst (kept f p n)) → Qd H) :
    ∃ W : Nat → Nat → Hp → Prop, (∃ m, W 0 m (upd H1 D (.lst []))) ∧ ∀ i m H, W i m H →
      ((Itr lo n).stop i H ∧ Qd H) ∨ ((Itr lo n).go i H ∧ ∃ Nx : Hp → Prop, (∀ H', Nx H' → ∃ m', m' < m ∧ W (i + 1) m' H') ∧ ∀ x H', (Itr lo n).yld i H x H' → g x (wipe σ vs) H' fun σ2 H2 => wipe σ2 vs = wipe σ vs ∧ tt σ2 H2 fun b H3 =>
        if b = true then te σ2 H3 fun y H4 => ∃ acc, H4 D = some (.lst acc) ∧ acc.length < sizeLine ∧ Nx (upd H4 D (.lst (acc ++ [y]))) else Nx H3) := by
  refine lc_range (lo := lo) (n := n) (fun i H => i ≤ n ∧ Same H1 H ∧ H D = some (.lst (kept f p i))) ⟨Nat.zero_le _, Same.one nD, upd_same⟩ ?_ (fun H z => hd H z.2.1 z.2.2)
  rintro i H hi ⟨hi', s1, hD⟩
  refine hs i H _ _ hi s1 (fun H'' s2 pi => ⟨_, s2 _ _ hD, Nat.lt_of_le_of_lt (kept_len _ _ _) (by omega), hi, ?_, ?_⟩) (fun H'' s2 pi => ⟨hi, s1.trans s2, ?_⟩)
  · exact Same.updN (s1.trans s2) nD
  · rw [upd_same, kept_succ, pi]
    rfl
  · rw [s2 _ _ hD, kept_succ, pi]
    simp
end
theorem kept_all (f : Nat → V) (m : Nat) : kept f (fun _ => true) m = (List.range m).map f := by
  unfold kept
  rw [List.filter_eq_self.mpr fun _ _ => rfl]
theorem kept_map {α : Type} (xs : List α) (d : α) (f : α → V) : kept (fun i => f (xs.getD i d)) (fun _ => true) xs.length = xs.map f := by
  rw [kept_all]
  apply List.ext_getElem
  · simp
  · intro i h1 h2
    have : i < xs.length := by simpa using h1
    simp [this]
theorem kept_filter {α : Type} (d : α) (f : α → V) (p : α → Bool) : ∀ (xs : List α), kept (fun i => f (xs.getD i d)) (fun i => p (xs.getD i d)) xs.length = (xs.filter p).map f := by
  intro xs
  unfold kept
  have e : xs = (List.range xs.length).map fun i => xs.getD i d := by
    apply List.ext_getElem
    · simp
    · intro i h1 h2
      simp [h1]
  conv => rhs; rw [e]
  rw [List.filter_map, List.map_map]
  rfl
end Xby

set_option Elab.async false
set_option linter.all false
set_option maxRecDepth 100000
set_option maxHeartbeats 4000000
/-! # tables, pairs and alignments as they lie in the heap; what a program's top has -/
namespace Xby
open PySem L2
/-! ## the top -/
structure Txt (K : PySem.W.Frag) (mg : Str → Option Value) where
  C : Addr
  EK : Addr
  ER : Addr
  EW : Addr
  EM : Addr
  iK : Addr
  iR : Addr
  iW : Addr
  iM : Addr
  t1 : Tok
  t2 : Tok
  t3 : Tok
  t4 : Tok
  eK : PySem.LowV.LowTxt K mg "BadColumns" "BadColumns.__init__" EK iK
  eR : PySem.LowV.LowTxt K mg "BadRows" "BadRows.__init__" ER iR
  eW : PySem.LowV.LowTxt K mg "BadRow" "BadRow.__init__" EW iW
  eM : PySem.LowL.LowTxt K mg "TooMany" "TooMany.__init__" EM iM
  cl : Cls K C
  n_columns : NoAttr K C "columns"
  n_rows : NoAttr K C "rows"
  g_Table : mg "Table" = some (.ref C)
  c_LONGEST_WORD : mg "LONGEST_WORD" = some (.int 8 t1)
  c_GREATEST_NUMBER : mg "GREATEST_NUMBER" = some (.int 999 t2)
  c_MOST_COLUMNS : mg "MOST_COLUMNS" = some (.int 3 t3)
  c_MOST_ROWS : mg "MOST_ROWS" = some (.int 6 t4)
  b_abs : mg "abs" = none
  b_all : mg "all" = none
  b_any : mg "any" = none
  b_bool : mg "bool" = none
  b_dict : mg "dict" = none
  b_enumerate : mg "enumerate" = none
  b_int : mg "int" = none
  b_isinstance : mg "isinstance" = none
  b_len : mg "len" = none
  b_list : mg "list" = none
  b_max : mg "max" = none
  b_min : mg "min" = none
  b_range : mg "range" = none
  b_repr : mg "repr" = none
  b_reversed : mg "reversed" = none
  b_set : mg "set" = none
  b_sorted : mg "sorted" = none
  b_str : mg "str" = none
  b_sum : mg "sum" = none
  b_tuple : mg "tuple" = none
  b_zip : mg "zip" = none
/-! ## cells, rows, tables -/
def cellV (v : V) : Bool := flatC v && cellD (datC v)
inductive RowsK (K : PySem.W.Frag) (H : Hp) (wd : Nat) : List V → List (List V) → Prop
  | nil : RowsK K H wd [] []
  | cons {a : Addr} {r : List V} {vs : List V} {rs : List (List V)} : SqT K H a r → r.length = wd → (∀ v ∈ r, cellV v = true) → RowsK K H wd vs rs → RowsK K H wd (.ref a :: vs) (r :: rs)
section
variable {K : PySem.W.Frag} {H H' : Hp} {wd n : Nat} {p a : Addr} {xs : List V} {rs : List (List V)}
theorem RowsK.len (h : RowsK K H wd xs rs) : xs.length = rs.length := by
  induction h with
  | nil => rfl
  | cons _ _ _ _ ih => simp [ih]
theorem RowsK.same (h : RowsK K H wd xs rs) (s : Same H H') : RowsK K H' wd xs rs := by
  induction h with
  | nil => exact .nil
  | cons e l m _ ih => exact .cons (e.ext s) l m ih
theorem RowsK.get (h : RowsK K H wd xs rs) : ∀ {i : Nat} {x : V}, xs[i]? = some x → ∃ b r, x = .ref b ∧ rs[i]? = some r ∧ SqT K H b r ∧ r.length = wd ∧ ∀ v ∈ r, cellV v = true := by
  induction h with
  | nil => exact fun e => by simp at e
  | @cons b r _ _ e l m _ ih =>
    intro i x hx
    cases i with
    | zero =>
      obtain rfl : V.ref b = x := by simpa using hx
      exact ⟨b, r, rfl, rfl, e, l, m⟩
    | succ i => exact ih (by simpa using hx)
theorem RowsK.snoc {r : List V} (h : RowsK K H wd xs rs) (e : SqT K H a r) (l : r.length = wd) (m : ∀ v ∈ r, cellV v = true) : RowsK K H wd (xs ++ [.ref a]) (rs ++ [r]) := by
  induction h with
  | nil => exact .cons e l m .nil
  | cons e' l' m' _ ih => exact .cons e' l' m' ih
theorem cellV_flat {v : V} (h : cellV v = true) : flatC v = true := by
  unfold cellV at h
  rw [Bool.and_eq_true] at h
  exact h.1
theorem cellV_cell {v : V} (h : cellV v = true) : cellD (datC v) = true := by
  unfold cellV at h
  rw [Bool.and_eq_true] at h
  exact h.2
theorem RowsK.dq (h : RowsK K H wd xs rs) : DqAll K H xs (rs.map fun r => .tuple (r.map datC)) := by
  induction h with
  | nil => exact .nil
  | cons e l m _ ih => exact .cons (.tup e (DqAll.flat fun v hv => cellV_flat (m v hv))) ih
theorem seqBut {a : Addr} {xs : List V} (h : SqT K H a xs) (pot : Pot H p n) (b : But p H H') : SqT K H' a xs := ((seqWo h pot).ext (wo_but b)).ext wo_same
theorem RowsK.but (h : RowsK K H wd xs rs) (pot : Pot H p n) (b : But p H H') : RowsK K H' wd xs rs := by
  induction h with
  | nil => exact .nil
  | cons e l m _ ih => exact .cons (seqBut e pot b) l m ih
end
def intV : V → Bool
  | .int _ => true
  | _ => false
theorem intV_not {v : V} (h : ∀ lo hi, okV lo hi v = false) : intV v = false := by
  cases v with
  | int i => exact absurd (h i i) (by simp [okV])
  | _ => rfl
theorem intV_is {v : V} (h : intV v = true) : ∃ i, v = .int i := by
  cases v with
  | int i => exact ⟨i, rfl⟩
  | _ => cases h
def flds (c r : V) : List (Str × V) := putF "rows" r (putF "columns" c [])
theorem l_columns (c r : V) : (flds c r).lookup ("columns" : Str) = some c := by
  unfold flds
  rw [lookup_putF, if_neg (by decide +kernel), lookup_putF, if_pos rfl]
theorem l_rows (c r : V) : (flds c r).lookup ("rows" : Str) = some r := by
  unfold flds
  rw [lookup_putF, if_pos rfl]
/-- a table at a: its names, its rows -/
structure Tab (K : PySem.W.Frag) (C : Addr) (H : Hp) (a : Addr) (hs : List Str) (rs : List (List V)) (dx ac ar : Addr) (xs : List V) : Prop where
  at_ : H a = some (.ins C dx (flds (.ref ac) (.ref ar)))
  c : SqT K H ac (hs.map V.str)
  r : SqT K H ar xs
  rows : RowsK K H hs.length xs rs
  w1 : 1 ≤ hs.length
  w3 : hs.length ≤ 3
  hw : ∀ h ∈ hs, wordS h = true
  nd : hs.Nodup
  r6 : rs.length ≤ 6
def IsTab (K : PySem.W.Frag) (C : Addr) (H : Hp) (a : Addr) (hs : List Str) (rs : List (List V)) : Prop := ∃ dx ac ar xs, Tab K C H a hs rs dx ac ar xs
section
variable {K : PySem.W.Frag} {C : Addr} {H H' : Hp} {a p : Addr} {hs : List Str} {rs : List (List V)} {n : Nat}
theorem IsTab.same (t : IsTab K C H a hs rs) (s : Same H H') : IsTab K C H' a hs rs := by
  obtain ⟨dx, ac, ar, xs, t⟩ := t
  exact ⟨dx, ac, ar, xs, s _ _ t.at_, t.c.ext s, t.r.ext s, t.rows.same s, t.w1, t.w3, t.hw, t.nd, t.r6⟩
theorem IsTab.but (t : IsTab K C H a hs rs) (pot : Pot H p n) (b : But p H H') : IsTab K C H' a hs rs := by
  obtain ⟨dx, ac, ar, xs, t⟩ := t
  have ne : a ≠ p := by
    rintro rfl
    obtain ⟨_, _, _, q, _⟩ := pot
    rw [t.at_] at q
    cases q
  exact ⟨dx, ac, ar, xs, b _ _ ne t.at_, seqBut t.c pot b, seqBut t.r pot b, t.rows.but pot b, t.w1, t.w3, t.hw, t.nd, t.r6⟩
theorem Tab.len (t : IsTab K C H a hs rs) : 1 ≤ hs.length ∧ hs.length ≤ 3 ∧ rs.length ≤ 6 := by
  obtain ⟨dx, ac, ar, xs, t⟩ := t
  exact ⟨t.w1, t.w3, t.r6⟩
end
theorem dq_strs {K : PySem.W.Frag} {H : Hp} : ∀ hs : List Str, DqAll K H (hs.map V.str) (hs.map PyData.str)
  | [] => .nil
  | h :: hs => .cons (.str h) (dq_strs hs)
/-! ## pairs -/
def pairD (m o : Nat) : PyData → Bool
  | .tuple [.int i, .int j] => decide (0 ≤ i ∧ i < m) && decide (0 ≤ j ∧ j < o)
  | _ => false
def prD : PyData → Int × Int
  | .tuple [.int i, .int j] => (i, j)
  | _ => (0, 0)
def pairsD (m o : Nat) : PyData → Bool
  | .tuple ds => ds.all (pairD m o) && okPs (ds.map prD)
  | _ => false
def nilD : PyData → Bool
  | .tuple [] => true
  | _ => false
def laidD (m o r q : Nat) : PyData → Bool
  | .tuple [a, b] => pairsD m o a && pairsD r q b && (!nilD a || nilD b)
  | _ => false
def datP (p : Int × Int) : PyData := .tuple [.int p.1, .int p.2]
/-- pairs of ints, as items -/
inductive Prs (K : PySem.W.Frag) (H : Hp) : List V → List (Int × Int) → Prop
  | nil : Prs K H [] []
  | cons {a : Addr} {i j : Int} {vs : List V} {ps : List (Int × Int)} : SqT K H a [.int i, .int j] → Prs K H vs ps → Prs K H (.ref a :: vs) ((i, j) :: ps)
section
variable {K : PySem.W.Frag} {H H' : Hp} {n : Nat} {p a : Addr} {xs : List V} {ps : List (Int × Int)}
theorem Prs.len (h : Prs K H xs ps) : xs.length = ps.length := by
  induction h with
  | nil => rfl
  | cons _ _ ih => simp [ih]
theorem Prs.same (h : Prs K H xs ps) (s : Same H H') : Prs K H' xs ps := by
  induction h with
  | nil => exact .nil
  | cons e _ ih => exact .cons (e.ext s) ih
theorem Prs.but (h : Prs K H xs ps) (pot : Pot H p n) (b : But p H H') : Prs K H' xs ps := by
  induction h with
  | nil => exact .nil
  | cons e _ ih => exact .cons (seqBut e pot b) ih
theorem Prs.get (h : Prs K H xs ps) : ∀ {i : Nat} {x : V}, xs[i]? = some x → ∃ b, x = .ref b ∧ ps[i]? = some (ps.getD i (0, 0)) ∧ SqT K H b [.int (ps.getD i (0, 0)).1, .int (ps.getD i (0, 0)).2] := by
  induction h with
  | nil => exact fun e => by simp at e
  | @cons b i j _ _ e _ ih =>
    intro k x hx
    cases k with
    | zero =>
      obtain rfl : V.ref b = x := by simpa using hx
      exact ⟨b, rfl, rfl, e⟩
    | succ k =>
      obtain ⟨b, h1, h2, h3⟩ := ih (i := k) (by simpa using hx)
      exact ⟨b, h1, by simpa using h2, by simpa using h3⟩
theorem Prs.snoc {i j : Int} (h : Prs K H xs ps) (e : SqT K H a [.int i, .int j]) : Prs K H (xs ++ [.ref a]) (ps ++ [(i, j)]) := by
  induction h with
  | nil => exact .cons e .nil
  | cons e' _ ih => exact .cons e' ih
theorem Prs.dq (h : Prs K H xs ps) : DqAll K H xs (ps.map datP) := by
  induction h with
  | nil => exact .nil
  | cons e _ ih => exact .cons (.tup e (.cons (.int _) (.cons (.int _) .nil))) ih
theorem Prs.of {ds : List PyData} {m o : Nat} (h : DqAll K H xs ds) (all : ds.all (pairD m o) = true) : Prs K H xs (ds.map prD) ∧ ds = (ds.map prD).map datP ∧ ∀ q ∈ ds.map prD, (0 ≤ q.1 ∧ q.1 < m) ∧ 0 ≤ q.2 ∧ q.2 < o := by
  induction xs generalizing ds with
  | nil =>
    cases h
    exact ⟨.nil, rfl, by simp⟩
  | cons x xs ih =>
    cases h with
    | @cons _ _ d ds h1 h2 =>
      rw [List.all_cons, Bool.and_eq_true] at all
      obtain ⟨a1, a2, a3⟩ := ih h2 all.2
      have one := all.1
      unfold pairD at one
      split at one
      · rename_i i j
        rw [Bool.and_eq_true] at one
        cases h1 with
        | tup hs hd =>
          cases hd with
          | cons i1 r1 =>
            cases r1 with
            | cons i2 r2 =>
              cases r2
              cases i1
              cases i2
              refine ⟨.cons hs a1, ?_, fun q hq => ?_⟩
              · rw [List.map_cons, List.map_cons, ← a2]
                rfl
              · rw [List.map_cons] at hq
                rcases List.mem_cons.mp hq with rfl | hq
                · exact ⟨of_decide_eq_true one.1, of_decide_eq_true one.2⟩
                · exact a3 q hq
      · cases one
end
theorem pairsD_map {m o : Nat} {ps : List (Int × Int)} (hb : ∀ q ∈ ps, (0 ≤ q.1 ∧ q.1 < m) ∧ 0 ≤ q.2 ∧ q.2 < o) : pairsD m o (.tuple (ps.map datP)) = okPs ps := by
  have e1 : (ps.map datP).all (pairD m o) = true := by
    rw [List.all_map, List.all_eq_true]
    intro q hq
    obtain ⟨h1, h2⟩ := hb q hq
    show (decide _ && decide _) = true
    rw [decide_eq_true h1, decide_eq_true h2]
    rfl
  have e2 : (ps.map datP).map prD = ps := by
    rw [List.map_map]
    exact List.map_id'' (fun q => rfl) ps
  show ((ps.map datP).all (pairD m o) && okPs ((ps.map datP).map prD)) = okPs ps
  rw [e1, e2, Bool.true_and]
end Xby
namespace Xby
open PySem L2
theorem sh_word {d : PyData} (h : wordD d = true) : Sh d := by
  rintro x rfl
  have h : wordS x = true := h
  unfold wordS at h
  rw [Bool.and_eq_true] at h
  have := (of_decide_eq_true h.1).2
  omega
theorem sh_cell {d : PyData} (h : cellD d = true) : Sh d := by
  rintro x rfl
  have h : (false || false || wordD (.str x)) = true := h
  exact sh_word (d := .str x) (by simpa using h) x rfl
theorem tab_two {K : PySem.W.Frag} {H : Hp} {ac ar : Addr} {hs : List Str} {xs : List V} {rs : List (List V)} (hc : SqT K H ac (hs.map V.str)) (hr : SqT K H ar xs) (rows : RowsK K H hs.length xs rs) (w1 : 1 ≤ hs.length) (w3 : hs.length ≤ 3)
    (hw : ∀ h ∈ hs, wordS h = true) (nd : hs.Nodup) (r6 : rs.length ≤ 6) :
    ∃ xs', Two K H (.ref ac) (.ref ar) (.tuple (hs.map PyData.str)) (.tuple (rs.map fun r => .tuple (r.map datC))) xs' ∧ (due (.ref ac) (.ref ar) (.tuple (hs.map PyData.str)) (.tuple (rs.map fun r => .tuple (r.map datC))) xs').1 = .none := by
  have all : ∀ {rs : List (List V)} {xs : List V}, RowsK K H hs.length xs rs → ∀ r ∈ rs, r.length = hs.length ∧ ∀ v ∈ r, cellV v = true := by
    intro rs xs h
    induction h with
    | nil => exact fun r hr => by simp at hr
    | cons _ l m _ ih =>
      intro r hr
      rcases List.mem_cons.mp hr with rfl | hr
      · exact ⟨l, m⟩
      · exact ih r hr
  have all := all rows
  have s1 : Sh1 (.tuple (hs.map PyData.str)) := by
    rintro ds e d hd
    injection e with e
    subst e
    obtain ⟨h, hh, rfl⟩ := List.mem_map.mp hd
    exact sh_word (d := .str h) (hw h hh)
  have s2 : Sh2 (.tuple (rs.map fun r => .tuple (r.map datC))) := by
    rintro ds e d hd
    injection e with e
    subst e
    obtain ⟨r, hr, rfl⟩ := List.mem_map.mp hd
    rintro ds e d hd
    injection e with e
    subst e
    obtain ⟨v, hv, rfl⟩ := List.mem_map.mp hd
    exact sh_cell (cellV_cell ((all r hr).2 v hv))
  obtain ⟨xs', two⟩ := two_of (.tup hc (dq_strs hs)) (.tup hr rows.dq) s1 s2
  refine ⟨xs', two, ?_⟩
  have c : colsD (.tuple (hs.map PyData.str)) = true := by
    show (decide _ && _ && decide _) = true
    have e1 : (hs.map PyData.str).all wordD = true := by
      rw [List.all_map, List.all_eq_true]
      exact hw
    have e2 : (hs.map PyData.str).map strD = hs := by
      rw [List.map_map]
      exact List.map_id'' (fun q => rfl) hs
    rw [e1, e2, decide_eq_true nd, decide_eq_true (by rw [List.length_map]; exact ⟨w1, w3⟩)]
    rfl
  refine congrArg Prod.fst (due_none c (by rw [List.length_map]; omega) (bad_no fun e he => ?_))
  obtain ⟨r, hr, rfl⟩ := List.mem_map.mp he
  obtain ⟨l, m⟩ := all r hr
  show (decide ((r.map datC).length = (hs.map PyData.str).length) && (r.map datC).all cellD) = true
  rw [List.length_map, List.length_map, decide_eq_true l, Bool.true_and, List.all_map, List.all_eq_true]
  exact fun v hv => cellV_cell (m v hv)
end Xby
namespace Xby
open PySem L2
theorem pairD_two (m o : Nat) (d e : PyData) : pairD m o (.tuple [d, e]) = (intD 0 ((m : Int) - 1) d && intD 0 ((o : Int) - 1) e) := by
  have l : ∀ (x : Int) (n : Nat), decide (0 ≤ x ∧ x < (n : Int)) = decide (0 ≤ x ∧ x ≤ (n : Int) - 1) := fun x n => by
    congr 1
    exact propext ⟨fun z => ⟨z.1, by omega⟩, fun z => ⟨z.1, by omega⟩⟩
  cases d <;> cases e <;> first
    | (show (decide _ && decide _) = (decide _ && decide _); rw [l, l]; done)
    | simp [pairD, intD]
theorem pairD_len {m o : Nat} {ds : List PyData} (h : ds.length ≠ 2) : pairD m o (.tuple ds) = false := by
  match ds, h with
  | [], _ => rfl
  | [d], _ => cases d <;> rfl
  | [d, e], h => exact absurd rfl h
  | d :: e :: f :: r, _ => cases d <;> cases e <;> rfl
theorem pairD_not {m o : Nat} {d : PyData} (h : ∀ ds, d ≠ .tuple ds) : pairD m o d = false := by
  cases d with
  | tuple ds => exact absurd rfl (h ds)
  | _ => rfl
theorem laidD_len {m o r q : Nat} {ds : List PyData} (h : ds.length ≠ 2) : laidD m o r q (.tuple ds) = false := by
  match ds, h with
  | [], _ => rfl
  | [d], _ => rfl
  | [d, e], h => exact absurd rfl h
  | d :: e :: f :: r, _ => rfl
/-- no great tuple -/
def Few (d : PyData) : Prop := ∀ ds, d = .tuple ds → ds.length ≤ 1000
def Few1 (d : PyData) : Prop := ∀ ds, d = .tuple ds → ∀ e ∈ ds, Few e
theorem rise_all (ps : List (Int × Int)) : ((List.range (ps.length - 1)).map fun i => decide ((ps.getD i (0, 0)).1 < (ps.getD (i + 1) (0, 0)).1)).all id = decide ((ps.map (·.1)).Pairwise (· < ·)) := by
  rw [Bool.eq_iff_iff, decide_eq_true_iff, ← rise_iff, List.all_map, List.all_eq_true]
  constructor
  · intro h k hk
    rw [List.length_map] at hk
    have := h k (List.mem_range.mpr (by omega))
    have := of_decide_eq_true this
    simpa [List.getD_eq_getElem?_getD, hk, Nat.lt_of_succ_lt hk] using this
  · intro h k hk
    have hk := List.mem_range.mp hk
    have h1 : k + 1 < ps.length := by omega
    have := h k (by rw [List.length_map]; exact h1)
    show decide _ = true
    refine decide_eq_true ?_
    simpa [List.getD_eq_getElem?_getD, h1, Nat.lt_of_succ_lt h1] using this
section
variable {K : PySem.W.Frag} {H : Hp} {v : V} {d : PyData} {m o : Nat}
theorem pairs_tup (h : Dq K H v d) (p : pairsD m o d = true) : ∃ a xs ds, v = .ref a ∧ d = .tuple ds ∧ SqT K H a xs ∧ DqAll K H xs ds := by
  cases d with
  | tuple ds =>
    obtain ⟨a, xs, e, h1, h2⟩ := h.ofTup
    exact ⟨a, xs, ds, e, rfl, h1, h2⟩
  | _ => cases p
theorem nilD_of {xs : List V} {ds : List PyData} (h : DqAll K H xs ds) : xs.isEmpty = nilD (.tuple ds) := by
  cases h <;> rfl
end
end Xby
namespace Xby
open PySem L2
def InB (m o : Nat) (ps : List (Int × Int)) : Prop := ∀ q ∈ ps, (0 ≤ q.1 ∧ q.1 < m) ∧ 0 ≤ q.2 ∧ q.2 < o
/-- an alignment at a -/
def Laid (K : PySem.W.Frag) (H : Hp) (a : Addr) (cs ps : List (Int × Int)) : Prop := ∃ a1 a2 x1 x2, SqT K H a [.ref a1, .ref a2] ∧ SqT K H a1 x1 ∧ Prs K H x1 cs ∧ SqT K H a2 x2 ∧ Prs K H x2 ps
section
variable {K : PySem.W.Frag} {H H' : Hp} {a p b : Addr} {cs ps : List (Int × Int)} {n : Nat} {xs l l' : List V}
theorem Laid.same (h : Laid K H a cs ps) (s : Same H H') : Laid K H' a cs ps := by
  obtain ⟨a1, a2, x1, x2, h1, h2, h3, h4, h5⟩ := h
  exact ⟨a1, a2, x1, x2, h1.ext s, h2.ext s, h3.same s, h4.ext s, h5.same s⟩
theorem Laid.but (h : Laid K H a cs ps) (pot : Pot H p n) (s : But p H H') : Laid K H' a cs ps := by
  obtain ⟨a1, a2, x1, x2, h1, h2, h3, h4, h5⟩ := h
  exact ⟨a1, a2, x1, x2, seqBut h1 pot s, seqBut h2 pot s, h3.but pot s, seqBut h4 pot s, h5.but pot s⟩
theorem Laid.dq (h : Laid K H a cs ps) : Dq K H (.ref a) (.tuple [.tuple (cs.map datP), .tuple (ps.map datP)]) := by
  obtain ⟨a1, a2, x1, x2, h1, h2, h3, h4, h5⟩ := h
  exact .tup h1 (.cons (.tup h2 h3.dq) (.cons (.tup h4 h5.dq) .nil))
theorem seqUpd (h : SqT K H a xs) (hb : H b = some (.lst l)) : SqT K (upd H b (.lst l')) a xs := by
  rcases h with (h | ⟨o, h⟩) | ⟨o, i, j, h⟩
  · exact .inl (.inl (by rw [upd_ne (by rintro rfl; rw [h] at hb; cases hb)]; exact h))
  · exact .inl (.inr ⟨o, by rw [upd_ne (by rintro rfl; rw [h] at hb; cases hb)]; exact h⟩)
  · exact .inr ⟨o, i, j, h⟩
theorem Prs.updL (h : Prs K H xs ps) (hb : H b = some (.lst l)) : Prs K (upd H b (.lst l')) xs ps := by
  induction h with
  | nil => exact .nil
  | cons e _ ih => exact .cons (seqUpd e hb) ih
end
theorem erase_perm {α : Type} : ∀ (l : List α) (i : Nat) (h : i < l.length), (l[i] :: l.eraseIdx i).Perm l
  | x :: xs, 0, _ => List.Perm.refl _
  | x :: xs, i + 1, h => by
    have h' : i < xs.length := by simpa using h
    exact (List.Perm.swap x xs[i] (xs.eraseIdx i)).trans ((erase_perm xs i h').cons x)
end Xby

set_option Elab.async false
set_option linter.all false
set_option maxRecDepth 100000
set_option maxHeartbeats 4000000
namespace Xby
open PySem L2
def spPairs6 (K : PySem.W.Frag) : Sp := fun vs H Q _ => ∃ (v : V) (d : PyData) (m o : Nat), vs = [v, .int m, .int o] ∧ m ≤ 6 ∧ Dq K H v d ∧ Few d ∧ ∀ H', Same H H' → Q (.bl (pairsD m o d)) H'
theorem dp_ints {K : PySem.W.Frag} {H : Hp} {a : Addr} {ns : List Int} (h : H a = some (.lst (ns.map V.int))) : Dp K H (.ref a) (.list (ns.map PyData.int)) := by
  refine .lst (SqL.of h) ?_
  clear h
  induction ns with
  | nil => exact .nil
  | cons n ns ih => exact .cons (.int n) ih
theorem shaped_ints (ns : List Int) : SeqAt.shaped (.list (ns.map PyData.int)) = true := by
  have h : ∀ ns : List Int, PyData.canLayAll0 (ns.map PyData.int) = true ∧ PyData.depthAll (ns.map PyData.int) = 0 := by
    intro ns
    induction ns with
    | nil => exact ⟨rfl, rfl⟩
    | cons n ns ih => exact ⟨by simp only [List.map_cons, PyData.canLayAll0, PyData.canLay0, ih.1, Bool.and_self], by simp only [List.map_cons, PyData.depthAll, PyData.depth, ih.2]; rfl⟩
  obtain ⟨a, b⟩ := h ns
  exact Shp.shaped (k := 1) ⟨by simpa only [PyData.canLay0] using a, by simp only [PyData.depth, b]; omega⟩ (by decide)
theorem eqv_ints (xs ys : List Int) : PyData.eqv (.list (xs.map PyData.int)) (.list (ys.map PyData.int)) = decide (xs = ys) := by
  simp only [PyData.eqv]
  induction xs generalizing ys with
  | nil => cases ys <;> simp [PyData.eqvAll]
  | cons x xs ih =>
    cases ys with
    | nil => simp [PyData.eqvAll]
    | cons y ys =>
      simp only [List.map_cons, PyData.eqvAll, PyData.eqv, ih]
      rw [Bool.eq_iff_iff]
      simp
end Xby

set_option Elab.async false
set_option linter.all false
set_option maxRecDepth 100000
set_option maxHeartbeats 4000000
namespace Xby
open PySem L2
section
variable {K : PySem.W.Frag} {H H' : Hp} {p L a : Addr} {o u : HO} {xs l I : List V} {w k n : Nat} {cs ps : List (Int × Int)}
theorem wo_upd : wo L (upd H L o) = wo L H := by
  funext b
  unfold wo
  split
  · rfl
  · rename_i h
    exact upd_ne h
theorem wo_wo : Same (wo p (wo L H)) (wo p H) := wo_but (But.of wo_same)
theorem wo_but2 (b : But p H H') (hp : ∀ {o}, H L = some o → H' L = some o ∨ True) : But p (wo L H) (wo L H') := fun c o n e => by
  have nl : c ≠ L := fun z => by rw [z, wo_p] at e; cases e
  exact wo_at nl (b c o n (wo_same c o e))
theorem wo_butL (b : But p H H') : But p (wo L H) (wo L H') := wo_but2 b fun _ => .inr trivial
theorem wo_potL (pot : Pot H p n) (ne : p ≠ L) : Pot (wo L H) p n := by
  obtain ⟨x, y, z, e, r⟩ := pot
  exact ⟨x, y, z, wo_at ne e, r⟩
theorem seqOff (h : SqT K H a xs) (hb : H L = some (.lst l)) : SqT K (wo L H) a xs := by
  rcases h with (h | ⟨o, h⟩) | ⟨o, i, j, h⟩
  · exact .inl (.inl (wo_at (by rintro rfl; rw [h] at hb; cases hb) h))
  · exact .inl (.inr ⟨o, wo_at (by rintro rfl; rw [h] at hb; cases hb) h⟩)
  · exact .inr ⟨o, i, j, h⟩
theorem Prs.off (h : Prs K H xs ps) (hb : H L = some (.lst l)) : Prs K (wo L H) xs ps := by
  induction h with
  | nil => exact .nil
  | cons e _ ih => exact .cons (seqOff e hb) ih
theorem Laid.off (h : Laid K H a cs ps) (hb : H L = some (.lst l)) : Laid K (wo L H) a cs ps := by
  obtain ⟨a1, a2, x1, x2, h1, h2, h3, h4, h5⟩ := h
  exact ⟨a1, a2, x1, x2, seqOff h1 hb, seqOff h2 hb, h3.off hb, seqOff h4 hb, h5.off hb⟩
theorem Laid.dqp (h : Laid K H a cs ps) (pot : Pot H p n) : Dq K (wo p H) (.ref a) (.tuple [.tuple (cs.map datP), .tuple (ps.map datP)]) := by
  obtain ⟨_, _, _, q, _⟩ := pot
  exact (h.off q).dq
/-- what is data where a list is shut away does not hold that list -/
theorem seqShut {od : Obj} (h : SqT K H a xs) (hb : H L = some (.frz od (.lst I))) : SqT K (wo L H) a xs := by
  rcases h with (h | ⟨o, h⟩) | ⟨o, i, j, h⟩
  · exact .inl (.inl (wo_at (by rintro rfl; rw [h] at hb; cases hb) h))
  · exact .inl (.inr ⟨o, wo_at (by rintro rfl; rw [h] at hb; cases hb) h⟩)
  · exact .inr ⟨o, i, j, h⟩
mutual
theorem Dq.shut {od : Obj} (hb : H L = some (.frz od (.lst I))) : ∀ {v : V} {d : PyData}, Dq K H v d → Dq K (wo L H) v d
  | _, _, .non => .non
  | _, _, .bl b => .bl b
  | _, _, .int i => .int i
  | _, _, .str x => .str x
  | _, _, .lst h n a => .lst (wo_at (by rintro rfl; rw [h] at hb; cases hb) h) n (DqAll.shut hb a)
  | _, _, .tup h a => .tup (seqShut h hb) (DqAll.shut hb a)
  | _, _, .dct h a => .dct (wo_at (by rintro rfl; rw [h] at hb; cases hb) h) (DqKv.shut hb a)
theorem DqAll.shut {od : Obj} (hb : H L = some (.frz od (.lst I))) : ∀ {vs : List V} {ds : List PyData}, DqAll K H vs ds → DqAll K (wo L H) vs ds
  | _, _, .nil => .nil
  | _, _, .cons h a => .cons (Dq.shut hb h) (DqAll.shut hb a)
theorem DqKv.shut {od : Obj} (hb : H L = some (.frz od (.lst I))) : ∀ {kvs : List (Key × V)} {ds : List (PyData × PyData)}, DqKv K H kvs ds → DqKv K (wo L H) kvs ds
  | _, _, .nil => .nil
  | _, _, .cons h a => .cons (Dq.shut hb h) (DqKv.shut hb a)
end
theorem wo_shut {od : Obj} (hb : H L = some (.lst I)) : Same (wo p (wo L H)) (wo p (upd H L (.frz od (.lst I)))) := wo_but (But.of fun b o e => by
  have n : b ≠ L := fun z => by rw [z, wo_p] at e; cases e
  rw [upd_ne n]
  exact wo_same b o e)
theorem wo_comm : wo p (wo L H) = wo L (wo p H) := by
  funext b
  unfold wo
  by_cases h1 : b = p <;> by_cases h2 : b = L <;> simp [h1, h2]
/-- a list is shut away, something is done, the list is there again -/
structure Lock (p L : Addr) (I : List V) (od : Obj) (H H' : Hp) : Prop where
  at_ : H' L = some (.frz od (.lst I))
  but : But p H (upd H' L (.lst I))
  off : But p (wo L H) (wo L (upd H' L (.lst I)))
theorem lock_of {od : Obj} (hL : H L = some (.lst I)) (ne : L ≠ p) (b : But p (upd H L (.frz od (.lst I))) H') : Lock p L I od H H' := by
  refine ⟨b L _ ne upd_same, fun c o n e => ?_, ?_⟩
  · by_cases h : c = L
    · subst h
      rw [hL] at e
      rw [upd_same]
      exact e
    · rw [upd_ne h]
      exact b c o n (by rw [upd_ne h]; exact e)
  · have z := wo_butL (L := L) b
    rw [wo_upd] at z
    rw [wo_upd]
    exact z
/-- data made while the list was shut away -/
theorem Okd.shut {od : Obj} {x : V} (h : Okd K p w k H' x) (hb : H' L = some (.frz od (.lst I))) (ne : L ≠ p) : Okd K p w k (wo L (upd H' L (.lst I))) x := by
  obtain ⟨d, q, z⟩ := h
  refine ⟨d, ?_, z⟩
  rw [wo_upd, wo_comm]
  exact q.shut (wo_at ne hb)
end
theorem sz_pair : ∀ i j : Nat, i < 6 → j < 6 → Sz 10 1 (datP ((i : Int), (j : Int))) := by
  have : ∀ i : Fin 6, ∀ j : Fin 6, Sz 10 1 (datP ((i.val : Int), (j.val : Int))) := by decide +kernel
  exact fun i j hi hj => this ⟨i, hi⟩ ⟨j, hj⟩
theorem okPs_len {ps : List (Int × Int)} {m o : Nat} (ok : okPs ps = true) (inb : InB m o ps) : ps.length ≤ m := by
  unfold okPs at ok
  rw [Bool.and_eq_true] at ok
  have nd : (ps.map (·.1)).Nodup := (of_decide_eq_true ok.1).imp fun h => Int.ne_of_lt h
  have := nd.length_le_of_subset (l₂ := (List.range m).map fun i : Nat => (i : Int)) fun x hx => by
    obtain ⟨q, hq, rfl⟩ := List.mem_map.mp hx
    have := (inb q hq).1
    exact List.mem_map.mpr ⟨q.1.toNat, List.mem_range.mpr (by omega), by omega⟩
  rw [List.length_map, List.length_map, List.length_range] at this
  exact this
theorem sz_pairs {ps : List (Int × Int)} {m o : Nat} (hm : m ≤ 6) (ho : o ≤ 6) (ok : okPs ps = true) (inb : InB m o ps) : Sz 66 2 (.tuple (ps.map datP)) := by
  have l := okPs_len ok inb
  refine (Sz.tup (w := 10) (k := 1) fun d hd => ?_).more ?_ (by decide)
  · obtain ⟨q, hq, rfl⟩ := List.mem_map.mp hd
    obtain ⟨⟨h0, h1⟩, h2, h3⟩ := inb q hq
    have := sz_pair q.1.toNat q.2.toNat (by omega) (by omega)
    rw [Int.toNat_of_nonneg h0, Int.toNat_of_nonneg h2] at this
    exact this
  · rw [List.length_map]
    omega
theorem sz_laid {cs ps : List (Int × Int)} {m o r q : Nat} (hm : m ≤ 6) (ho : o ≤ 6) (hr : r ≤ 6) (hq : q ≤ 6) (oc : okPs cs = true) (ic : InB m o cs) (op : okPs ps = true) (ip : InB r q ps) : Sz 134 3 (.tuple [.tuple (cs.map datP), .tuple (ps.map datP)]) := by
  refine (Sz.tup (w := 66) (k := 2) fun d hd => ?_).more (by show 67 * 2 ≤ 134; decide) (by decide)
  simp only [List.mem_cons, List.not_mem_nil, or_false] at hd
  rcases hd with rfl | rfl
  · exact sz_pairs hm ho oc ic
  · exact sz_pairs hr hq op ip
theorem Sz.few {w k : Nat} {d : PyData} (z : Sz w k d) (h : w ≤ 1000) : Few d := by
  rintro ds rfl
  obtain ⟨j, _, s⟩ := z.items
  have := s.len
  omega
theorem Sz.few1 {w k : Nat} {d : PyData} (z : Sz w k d) (h : w ≤ 1000) : Few1 d := by
  rintro ds rfl e he
  obtain ⟨j, _, s⟩ := z.items
  exact (s.mem he).few h
theorem fine_bool (b : Bool) : Fine (.bool b) := by
  have : ∀ b : Bool, Sz 10 1 (.bool b) := by decide +kernel
  exact (this b).fine (by decide) (by decide)
theorem laidD_of {cs ps : List (Int × Int)} {m o r q : Nat} (ic : InB m o cs) (ip : InB r q ps) (oc : okPs cs = true) (op : okPs ps = true) (z : cs = [] → ps = []) : laidD m o r q (.tuple [.tuple (cs.map datP), .tuple (ps.map datP)]) = true := by
  show (pairsD m o _ && pairsD r q _ && (!nilD _ || nilD _)) = true
  rw [pairsD_map ic, pairsD_map ip, oc, op]
  cases cs with
  | nil =>
    rw [z rfl]
    rfl
  | cons c cs => rfl
end Xby
namespace Xby
open PySem L2
section
variable {K : PySem.W.Frag} {C : Addr} {H H' H0 : Hp} {p L a b one other : Addr} {o u : HO} {xs l I : List V} {w k n m : Nat} {cs ps : List (Int × Int)} {hs ks : List Str} {rs qs : List (List V)} {wd : Nat} {x : V}
theorem Okd.more {w' k' : Nat} (h : Okd K p w k H x) (hw : w ≤ w') (hk : k ≤ k') : Okd K p w' k' H x := by
  obtain ⟨d, q, z⟩ := h
  exact ⟨d, q, z.more hw hk⟩
theorem seqButL (h : SqT K H a xs) (hb : H b = some (.lst l)) (s : But b H H') : SqT K H' a xs := by
  rcases h with (h | ⟨o, h⟩) | ⟨o, i, j, h⟩
  · exact .inl (.inl (s a _ (by rintro rfl; rw [h] at hb; cases hb) h))
  · exact .inl (.inr ⟨o, s a _ (by rintro rfl; rw [h] at hb; cases hb) h⟩)
  · exact .inr ⟨o, i, j, h⟩
theorem RowsK.butL (h : RowsK K H wd xs rs) (hb : H b = some (.lst l)) (s : But b H H') : RowsK K H' wd xs rs := by
  induction h with
  | nil => exact .nil
  | cons e l m _ ih => exact .cons (seqButL e hb s) l m ih
theorem IsTab.butL (t : IsTab K C H a hs rs) (hb : H b = some (.lst l)) (s : But b H H') : IsTab K C H' a hs rs := by
  obtain ⟨dx, ac, ar, xs, t⟩ := t
  have ne : a ≠ b := by
    rintro rfl
    rw [t.at_] at hb
    cases hb
  exact ⟨dx, ac, ar, xs, s _ _ ne t.at_, seqButL t.c hb s, seqButL t.r hb s, t.rows.butL hb s, t.w1, t.w3, t.hw, t.nd, t.r6⟩
theorem But.upd1 : But b H (L2.upd H b o) := fun c u n e => by
  rw [upd_ne n]
  exact e
/-- a drawer, a list of data that grows, two tables -/
structure Bk (K : PySem.W.Frag) (C p L one other : Addr) (H0 : Hp) (hs ks : List Str) (rs qs : List (List V)) (w k : Nat) (m : Nat) (I : List V) (H : Hp) : Prop where
  hL : H L = some (.lst I)
  g : ∀ x ∈ I, Okd K p w k (wo L H) x
  t1 : IsTab K C H one hs rs
  t2 : IsTab K C H other ks qs
  pot : Pot H p m
  but : But p H0 H
  ne : L ≠ p
  nw : H0 L = none
  few : I.length ≤ 100000
theorem Bk.next (s : Bk K C p L one other H0 hs ks rs qs w k m I H) (b : But p H H') (pot : Pot H' p n) : Bk K C p L one other H0 hs ks rs qs w k n I H' :=
  ⟨b _ _ s.ne s.hL, all_but s.g (wo_butL b), s.t1.but s.pot b, s.t2.but s.pot b, pot, s.but.trans b, s.ne, s.nw, s.few⟩
theorem Bk.same (s : Bk K C p L one other H0 hs ks rs qs w k m I H) (b : Same H H') : Bk K C p L one other H0 hs ks rs qs w k m I H' := s.next (But.of b) (s.pot.same b)
theorem Bk.more (s : Bk K C p L one other H0 hs ks rs qs w k m I H) (h : m ≤ n) : Bk K C p L one other H0 hs ks rs qs w k n I H := ⟨s.hL, s.g, s.t1, s.t2, s.pot.more h, s.but, s.ne, s.nw, s.few⟩
theorem Bk.add (s : Bk K C p L one other H0 hs ks rs qs w k m I H) (o : Okd K p w k (wo L H) x) (few : I.length < 100000) : Bk K C p L one other H0 hs ks rs qs w k m (I ++ [x]) (upd H L (.lst (I ++ [x]))) := by
  refine ⟨upd_same, fun y hy => ?_, s.t1.butL s.hL But.upd1, s.t2.butL s.hL But.upd1, s.pot.upd s.ne.symm, s.but.updN s.nw, s.ne, s.nw, by rw [List.length_append]; exact few⟩
  rw [wo_upd]
  rcases List.mem_append.mp hy with hy | hy
  · exact s.g y hy
  · obtain rfl : y = x := by simpa using hy
    exact o
/-- behind what was done while the list was shut away -/
theorem Bk.lock {od : Obj} (s : Bk K C p L one other H0 hs ks rs qs w k m I H) (b : But p (upd H L (.frz od (.lst I))) H') (pot : Pot H' p n) : Lock p L I od H H' ∧ Bk K C p L one other H0 hs ks rs qs w k n I (upd H' L (.lst I)) := by
  have lk := lock_of s.hL s.ne b
  exact ⟨lk, s.next lk.but (pot.upd s.ne.symm)⟩
theorem Bk.line (s : Bk K C p L one other H0 hs ks rs qs w k m I H) : I.length < sizeLine := by
  have := s.few
  have : sizeLine = 16777216 := sizeLine_eq
  omega
end
end Xby

set_option Elab.async false
set_option linter.all false
set_option maxRecDepth 100000
set_option maxHeartbeats 4000000
/-! # max(xs, default=d), min(xs, default=d), xs a list of ints -/
namespace Xby
open PySem PySem.Spec PyProof.Rows L2
def maxDef (d : Int) : List Int → Int
  | [] => d
  | n :: ns => ns.foldl max n
def minDef (d : Int) : List Int → Int
  | [] => d
  | n :: ns => ns.foldl min n
theorem alike_ints (ns : List Int) : PySem.W.AlikeAll (ns.map PyData.int) := by
  refine ⟨fun x hx y hy => ?_, fun x hx => ?_⟩
  · obtain ⟨i, _, rfl⟩ := List.mem_map.mp hx
    obtain ⟨j, _, rfl⟩ := List.mem_map.mp hy
    rfl
  · obtain ⟨i, _, rfl⟩ := List.mem_map.mp hx
    simp
theorem depth_ints : ∀ ns : List Int, PyData.depthAll (ns.map PyData.int) = 0
  | [] => rfl
  | n :: ns => by simp only [List.map_cons, PyData.depthAll, PyData.depth, depth_ints ns]; rfl
theorem dp_intsL {K : PySem.W.Frag} {H : Hp} (ns : List Int) : DpAll K H (ns.map V.int) (ns.map PyData.int) := by
  induction ns with
  | nil => exact .nil
  | cons n ns ih => exact .cons (.int n) ih
section
variable {X : Cx}
def rMaxDef (K : PySem.W.Frag) (f : Int → List Int → Int) : List V → List V → Hp → VK → Prop := fun vs zs H Q => ∃ (a : Addr) (ns : List Int) (d : Int), vs = [.ref a] ∧ zs = [.int d] ∧ SqL K H a (ns.map V.int) ∧ Q (.int (f d ns)) H
theorem call_maxDef (K : PySem.W.Frag) (hK : X.K = K) (hc : X.calm = true) (hu : X.A.units + 64 < cLine) : CallRK X (.builtin "max") ["default"] (rMaxDef K maxDef) := by
  subst hK
  rintro pins s σ H xs zs us ws Q I rv rz ⟨a, ns, d, rfl, rfl, ha, q⟩
  obtain ⟨u, rfl, ru⟩ := vals1 rv
  obtain ⟨z, rfl, t, rfl⟩ := vals1 rz
  cases ru
  obtain ⟨its, rr, pl, _⟩ := I.list ha
  obtain ⟨as, rd⟩ := Dp.readsAll I (ns.map PyData.int) (ns.map V.int) its (dp_intsL ns) rr
  refine PySem.W.max_list_default (I.ok.hd hc) pl.isList (by simpa using rd) (alike_ints ns) (by rw [depth_ints]; omega) (fun e h' tk k => ?_) fun y ys i v h' tk bs e hv r k => ?_
  · have : ns = [] := by simpa using e
    subst this
    exact ⟨.int d, H, I.kept k, ⟨_, rfl⟩, q⟩
  · cases ns with
    | nil => cases e
    | cons n ns =>
      rw [List.map_cons] at e
      injection e with e1 e2
      subst e1 e2
      rw [PySem.W.maxD_ints] at r
      cases r with
      | int _ t => exact ⟨.int _, H, I.kept k, ⟨_, rfl⟩, q⟩
theorem call_minDef (K : PySem.W.Frag) (hK : X.K = K) (hc : X.calm = true) (hu : X.A.units + 64 < cLine) : CallRK X (.builtin "min") ["default"] (rMaxDef K minDef) := by
  subst hK
  rintro pins s σ H xs zs us ws Q I rv rz ⟨a, ns, d, rfl, rfl, ha, q⟩
  obtain ⟨u, rfl, ru⟩ := vals1 rv
  obtain ⟨z, rfl, t, rfl⟩ := vals1 rz
  cases ru
  obtain ⟨its, rr, pl, _⟩ := I.list ha
  obtain ⟨as, rd⟩ := Dp.readsAll I (ns.map PyData.int) (ns.map V.int) its (dp_intsL ns) rr
  refine PySem.W.min_list_default (I.ok.hd hc) pl.isList (by simpa using rd) (alike_ints ns) (by rw [depth_ints]; omega) (fun e h' tk k => ?_) fun y ys i v h' tk bs e hv r k => ?_
  · have : ns = [] := by simpa using e
    subst this
    exact ⟨.int d, H, I.kept k, ⟨_, rfl⟩, q⟩
  · cases ns with
    | nil => cases e
    | cons n ns =>
      rw [List.map_cons] at e
      injection e with e1 e2
      subst e1 e2
      rw [PySem.W.minD_ints] at r
      cases r with
      | int _ t => exact ⟨.int _, H, I.kept k, ⟨_, rfl⟩, q⟩
end
end Xby

set_option Elab.async false
set_option linter.all false
set_option maxRecDepth 100000
set_option maxHeartbeats 4000000
/-! # x in t, t a tuple of texts and x any data; x in t, both data -/
namespace Xby
open PySem PySem.Spec PyProof.Rows L2 SeqAt
theorem str_off_dict (b : Str) (u : Tok) (l : Addr) (es : Array DictEntry) (ep : Nat) (dd : Option Addr) (sl : Array (Option Value)) :
    Meets (Builtin.«str.__eq__» ⟨[.str b u, .ref l], []⟩) (fun _ R s => s.heap.get? l = some { cls := .type "dict", dict := dd, data := .dict es ep, slots := sl } ∧ R (.ok (.ret .notImplemented)) s) :=
  .of_wp fun prog w A R s h => by
    obtain ⟨hp, g, d, tk, os⟩ := s
    obtain ⟨hl, h⟩ := h
    wp_walk using wpAny_loadPart' hl, wpAny_load hl
    exact ⟨_, rfl, h⟩
theorem dict_off_str (l : Addr) (es : Array DictEntry) (ep : Nat) (dd : Option Addr) (sl : Array (Option Value)) (b : Str) (u : Tok) :
    Meets (Builtin.«dict.__eq__» ⟨[.ref l, .str b u], []⟩) (fun _ R s => s.heap.get? l = some { cls := .type "dict", dict := dd, data := .dict es ep, slots := sl } ∧ R (.ok (.ret .notImplemented)) s) :=
  .of_wp fun prog w A R s h => by
    obtain ⟨hp, g, d, tk, os⟩ := s
    obtain ⟨hl, h⟩ := h
    have f1 := PySem.F.sub_str_dict
    wp_walk using wpAny_loadPart' hl, wpAny_load hl
    exact ⟨_, rfl, h⟩
section
variable {A : Around} {s : Shared}
theorem rc_str_dict {l : Addr} {es : Array DictEntry} {ep : Nat} {o : Obj} (b : Str) (u : Tok) (ho : s.heap.get? l = some o) (hc : o.cls = .type "dict") (hd : o.data = .dict es ep) (hu : A.units < cLine) : RcAt A s (.str b u) (.ref l) false := fun prog w E Q h => by
  obtain ⟨cls, dd, data, sl⟩ := o
  simp only at hc hd
  subst hc hd
  exact rc_eq_decline_or (k := false) (typeIs_str s b u) ⟨_, ho, rfl⟩ (by decide) PySem.F.sub_dict_str PySem.F.slot_str_eq PySem.F.slot_dict_eq_refl
    (fun _ hq => call_meets PySem.F.slot_str_eq (typeIs_str s b u) PySem.F.entry_str_eq (PySem.F.args_str_eq_2 _ _) (str_off_dict b u l es ep dd sl) ⟨ho, hq⟩)
    (fun _ hq => call_meets PySem.F.slot_dict_eq_refl ⟨_, ho, rfl⟩ PySem.F.entry_dict_eq (PySem.F.args_dict_eq_2 _ _) (dict_off_str l es ep dd sl b u) ⟨ho, hq⟩)
    (fun _ hq => wpAny_of_eq (rfl : isSame (.str b u) (.ref l) = pure false) hq) (.inr hu) h
theorem eq_str_dict {l : Addr} {es : Array DictEntry} {ep : Nat} {o : Obj} (b : Str) (u : Tok) (ho : s.heap.get? l = some o) (hc : o.cls = .type "dict") (hd : o.data = .dict es ep) (hu : A.units < cLine) : EqAt A s (.str b u) (.ref l) false := fun prog w E Q h => by
  unfold eqBool
  refine wpAny_holding (wpAny_ite_split (fun hab => absurd (eq_of_beq hab) nofun) (fun _ => ?_))
  exact wpAny_bind (rc_str_dict b u ho hc hd hu prog w E _ (wpAny_truthy_bool h))
end
def isTxt (d : PyData) (a : Str) : Bool := match d with
  | .str b => a == b
  | _ => false
section
variable {X : Cx}
/-- x in t (neg: not in), t a tuple of texts -/
def rInTx (K : PySem.W.Frag) (neg : Bool) : R2 := fun x y H Q => ∃ (p : Addr) (ks : List Str) (d : PyData), y = .ref p ∧ SqT K H p (ks.map V.str) ∧ Dq K H x d ∧ Q (.bl (if neg then !ks.any (isTxt d) else ks.any (isTxt d))) H
theorem in_tx {K : PySem.W.Frag} {pins : List (Addr × Obj)} {σ : L2.St} {H : Hp} {s : Shared} {x : V} {v : Value} {d : PyData} {ks : List Str} {its : List Value} (I : Inv X pins σ H s) (hK : X.K = K) (hu : X.A.units + 64 < cLine) (hd : Dq K H x d) (rx : RelV x v) (rv : Vals (ks.map V.str) its) :
    ∃ e : Value → Bool, (∀ y, y ∈ its.toArray → EqAt X.A.in1 s y v (e y)) ∧ its.toArray.any e = ks.any (isTxt d) := by
  subst hK
  have un : X.A.in1.units < cLine := by show X.A.units + 1 < cLine; omega
  refine ⟨fun y => match y with | .str a _ => isTxt d a | _ => false, fun y hy => ?_, ?_⟩
  · have hy : y ∈ its := by simpa using hy
    have : ∃ a t, y = .str a t := by
      clear hd rx
      induction ks generalizing its with
      | nil => cases rv; simp at hy
      | cons k ks ih =>
        cases rv with
        | cons r1 r2 =>
          rcases List.mem_cons.mp hy with rfl | hy
          · obtain ⟨t, rfl⟩ := r1
            exact ⟨_, _, rfl⟩
          · exact ih r2 (by simpa using hy) hy
    obtain ⟨a, t, rfl⟩ := this
    cases hd with
    | non => cases rx; exact EqAt.str_none a t
    | bl b => cases rx; exact EqAt.str_bool a t b
    | int i => obtain ⟨t', rfl⟩ := rx; exact EqAt.str_int a t i t'
    | str b => obtain ⟨t', rfl⟩ := rx; exact EqAt.str_str a t b t'
    | lst hs _ _ =>
      cases rx
      obtain ⟨_, _, pl, _⟩ := I.list (SqL.of hs)
      exact EqAt.str_list a t pl.isList un
    | tup hs _ =>
      cases rx
      obtain ⟨_, _, pl, _⟩ := I.tuple hs
      exact EqAt.str_tuple a t pl un
    | dct hs _ =>
      cases rx
      obtain ⟨_, _, _, _, o, es, ep, ho, ex, hd, _⟩ := I.hok _ _ hs
      exact eq_str_dict a t ho ex.1 hd un
  · rw [List.any_toArray]
    clear hd rx
    induction ks generalizing its with
    | nil => cases rv; rfl
    | cons k ks ih =>
      cases rv with
      | cons r1 r2 =>
        obtain ⟨t, rfl⟩ := r1
        rw [List.any_cons, List.any_cons, ih r2]
theorem op_inTx (K : PySem.W.Frag) (hK : X.K = K) (hu : X.A.units + 64 < cLine) : OpR X (compareOp .In) (rInTx K false) := by
  rintro pins s σ H x y v u Q I rx ry ⟨p, ks, d, rfl, hp, hd, q⟩
  cases ry
  obtain ⟨its, rv, pl, _⟩ := I.tuple (by rw [hK]; exact hp)
  obtain ⟨e, he, ha⟩ := in_tx I hK hu hd rx rv
  exact in_tupleAt e pl he ⟨.bl _, H, I, by rw [ha]; rfl, q⟩
theorem op_notInTx (K : PySem.W.Frag) (hK : X.K = K) (hu : X.A.units + 64 < cLine) : OpR X (compareOp .NotIn) (rInTx K true) := by
  rintro pins s σ H x y v u Q I rx ry ⟨p, ks, d, rfl, hp, hd, q⟩
  cases ry
  obtain ⟨its, rv, pl, _⟩ := I.tuple (by rw [hK]; exact hp)
  obtain ⟨e, he, ha⟩ := in_tx I hK hu hd rx rv
  exact notIn_tupleAt e pl he ⟨.bl _, H, I, by rw [ha]; rfl, q⟩
/-- x in t, t a tuple of data -/
def rInDT (K : PySem.W.Frag) : R2 := fun x y H Q => ∃ d ds, Dp K H x d ∧ Dp K H y (.tuple ds) ∧ SeqAt.shaped d = true ∧ SeqAt.shaped (.tuple ds) = true ∧ Q (.bl (ds.any fun z => PyData.eqv z d)) H
theorem op_inDT (K : PySem.W.Frag) (hK : X.K = K) (hu : X.A.units + 65 < cLine) : OpR X (compareOp .In) (rInDT K) := by
  subst hK
  rintro pins s σ H x y v u Q I rx ry ⟨d, ds, hd, he, sd, se, q⟩
  obtain ⟨as, r1⟩ := Dp.reads I d x v hd rx
  obtain ⟨bs, r2⟩ := Dp.reads I (.tuple ds) y u he ry
  exact SeqAt.in_tuple_reads r2 r1 (SeqAt.canLay_of_shaped se) (SeqAt.canLay_of_shaped sd) (room_in_shaped sd hu) ⟨.bl _, H, I, rfl, q⟩
end
end Xby

set_option Elab.async false
set_option linter.all false
set_option maxRecDepth 100000
set_option maxHeartbeats 4000000
/-! # conditions, as data and as they lie in the heap -/
namespace Xby
open PySem L2
structure TxtA (K : PySem.W.Frag) (mg : Str → Option Value) extends Txt K mg where
  EA : Addr
  EB : Addr
  iA : Addr
  iB : Addr
  KN : Addr
  t5 : Tok
  eA : PySem.LowV.LowTxt K mg "BadAlignment" "BadAlignment.__init__" EA iA
  eB : PySem.LowV.LowTxt K mg "BadCondition" "BadCondition.__init__" EB iB
  c_KINDS : mg "KINDS" = some (.ref KN)
  kinds : ∀ H, SqT K H KN ((["column", "row"] : List Str).map V.str)
  c_MOST_CONDITIONS : mg "MOST_CONDITIONS" = some (.int 40 t5)
theorem seqLookup {K : PySem.W.Frag} {a : Addr} {o : Obj} {its : Array Value} {n : Nat} {xs : List V} (h : K.lookup a = some o) (hc : o.cls = .type "tuple") (hd : o.data = .seq its n) (few : its.size ≤ sizeLine) (v : Vals xs its.toList) (H : Hp) : SqT K H a xs := .inr ⟨o, its, n, h, hc, hd, few, v⟩
theorem hu65 {A : Around} {k : Nat} (hr : Room k A) : A.units + 65 < cLine := by
  have := hr.un
  omega
def boolD : PyData → Bool
  | .bool _ => true
  | _ => false
def okO (m : Nat) (d : PyData) : Bool := nonD d || intD 0 ((m : Int) - 1) d
def condD (m o r q : Nat) : PyData → Bool
  | .tuple [dk, di, dj, dt] => (["column", "row"] : List Str).any (isTxt dk) && boolD dt && !(nonD di && nonD dj) && (okO (if isTxt dk "column" then m else r) di && okO (if isTxt dk "column" then o else q) dj)
  | _ => false
structure Cnd where
  row : Bool
  i : Option Int
  j : Option Int
  t : Bool
def kn : Bool → Str
  | true => "row"
  | false => "column"
def vO : Option Int → V
  | none => .non
  | some i => .int i
def intO : PyData → Option Int
  | .int i => some i
  | _ => none
def cndD : PyData → Cnd
  | .tuple [dk, di, dj, .bool t] => ⟨isTxt dk "row", intO di, intO dj, t⟩
  | _ => ⟨false, none, none, false⟩
/-- whether the claim is so of these pairs -/
def holdsP (ps : List (Int × Int)) : Option Int → Option Int → Bool
  | some i, some j => decide ((i, j) ∈ ps)
  | some i, none => decide (i ∉ ps.map (·.1))
  | none, some j => decide (j ∉ ps.map (·.2))
  | none, none => true
def keepP (ps : List (Int × Int)) (row : Bool) (l : List Cnd) : Bool := (l.filter fun c => c.row == row).all fun c => holdsP ps c.i c.j == c.t
def keepB (cs ps : List (Int × Int)) (l : List Cnd) : Bool := keepP cs false l && keepP ps true l
inductive Cnds (K : PySem.W.Frag) (H : Hp) : List V → List Cnd → Prop
  | nil : Cnds K H [] []
  | cons {a : Addr} {c : Cnd} {vs : List V} {l : List Cnd} : SqT K H a [.str (kn c.row), vO c.i, vO c.j, .bl c.t] → (c.i ≠ none ∨ c.j ≠ none) → Cnds K H vs l → Cnds K H (.ref a :: vs) (c :: l)
section
variable {K : PySem.W.Frag} {H H' : Hp} {xs : List V} {l : List Cnd} {ds : List PyData} {m o r q : Nat} {v : V} {d : PyData}
theorem Cnds.len (h : Cnds K H xs l) : xs.length = l.length := by
  induction h with
  | nil => rfl
  | cons _ _ _ ih => simp [ih]
theorem Cnds.same (h : Cnds K H xs l) (s : Same H H') : Cnds K H' xs l := by
  induction h with
  | nil => exact .nil
  | cons e n _ ih => exact .cons (e.ext s) n ih
def cnd0 : Cnd := ⟨false, none, none, false⟩
theorem Cnds.get (h : Cnds K H xs l) : ∀ {i : Nat} {x : V}, xs[i]? = some x → ∃ b, x = .ref b ∧ l[i]? = some (l.getD i cnd0) ∧ SqT K H b [.str (kn (l.getD i cnd0).row), vO (l.getD i cnd0).i, vO (l.getD i cnd0).j, .bl (l.getD i cnd0).t] ∧ ((l.getD i cnd0).i ≠ none ∨ (l.getD i cnd0).j ≠ none) := by
  induction h with
  | nil => exact fun e => by simp at e
  | @cons b c _ _ e n _ ih =>
    intro k x hx
    cases k with
    | zero =>
      obtain rfl : V.ref b = x := by simpa using hx
      exact ⟨b, rfl, rfl, e, n⟩
    | succ k =>
      obtain ⟨b, h1, h2, h3, h4⟩ := ih (i := k) (by simpa using hx)
      exact ⟨b, h1, by simpa using h2, by simpa using h3, by simpa using h4⟩
theorem okO_is (h : Dq K H v d) (k : okO m d = true) : v = vO (intO d) ∧ (intO d = none ↔ nonD d = true) := by
  unfold okO at k
  cases h with
  | non => exact ⟨rfl, by simp [intO, nonD]⟩
  | int i => exact ⟨rfl, by simp [intO, nonD]⟩
  | _ => exact absurd k (by simp [nonD, intD])
theorem txt_is (h : Dq K H v d) (k : (["column", "row"] : List Str).any (isTxt d) = true) : v = .str (kn (isTxt d "row")) ∧ d = .str (kn (isTxt d "row")) ∧ isTxt d "column" = !isTxt d "row" := by
  cases h with
  | str x =>
    simp only [List.any_cons, List.any_nil, Bool.or_false, Bool.or_eq_true] at k
    rcases k with k | k
    · have e : ("column" : Str) = x := by simpa [isTxt] using k
      subst e
      exact ⟨congrArg V.str (by decide +kernel), congrArg PyData.str (by decide +kernel), by decide +kernel⟩
    · have e : ("row" : Str) = x := by simpa [isTxt] using k
      subst e
      exact ⟨congrArg V.str (by decide +kernel), congrArg PyData.str (by decide +kernel), by decide +kernel⟩
  | _ => exact absurd k (by simp [isTxt])
theorem bool_is (h : Dq K H v d) (k : boolD d = true) : ∃ t, v = .bl t ∧ d = .bool t := by
  cases h with
  | bl t => exact ⟨t, rfl, rfl⟩
  | _ => cases k
theorem cond_len (n : ds.length ≠ 4) : condD m o r q (.tuple ds) = false := by
  match ds, n with
  | [], _ => rfl
  | [_], _ => rfl
  | [_, _], _ => rfl
  | [_, _, _], _ => rfl
  | [_, _, _, _], n => exact absurd rfl n
  | _ :: _ :: _ :: _ :: _ :: _, _ => rfl
theorem Cnds.of (h : DqAll K H xs ds) (all : ds.all (condD m o r q) = true) : Cnds K H xs (ds.map cndD) := by
  induction xs generalizing ds with
  | nil => cases h; exact .nil
  | cons x xs ih =>
    cases h with
    | @cons _ _ d ds h1 h2 =>
      rw [List.all_cons, Bool.and_eq_true] at all
      have one := all.1
      have rest := ih h2 all.2
      unfold condD at one
      split at one
      · rename_i dk di dj dt
        rw [Bool.and_eq_true, Bool.and_eq_true, Bool.and_eq_true, Bool.and_eq_true] at one
        obtain ⟨⟨⟨k1, k2⟩, k3⟩, k4, k5⟩ := one
        cases h1 with
        | tup hs hd =>
          cases hd with
          | cons q0 r0 =>
            cases r0 with
            | cons q1 r1 =>
              cases r1 with
              | cons q2 r2 =>
                cases r2 with
                | cons q3 r3 =>
                  cases r3
                  obtain ⟨e0, f0, _⟩ := txt_is q0 k1
                  obtain ⟨t, e3, rfl⟩ := bool_is q3 k2
                  obtain ⟨e1, n1⟩ := okO_is q1 k4
                  obtain ⟨e2, n2⟩ := okO_is q2 k5
                  rw [e0, e1, e2, e3] at hs
                  refine .cons (c := ⟨isTxt dk "row", intO di, intO dj, t⟩) hs ?_ rest
                  by_cases z : intO di = none
                  · refine .inr fun z2 => ?_
                    rw [n1.mp z, n2.mp z2] at k3
                    cases k3
                  · exact .inl z
      · cases one
/-- the first member that is none -/
def badIn (P : PyData → Bool) : List V → List PyData → Option V
  | v :: vs, d :: ds => if P d then badIn P vs ds else some v
  | _, _ => none
def badConds (m o r q : Nat) (v : V) (d : PyData) (xs : List V) : Option V := match d with
  | .tuple ds => if 40 < ds.length then some v else badIn (condD m o r q) xs ds
  | _ => some v
theorem badIn_at {P : PyData → Bool} : ∀ {xs : List V} {rs : List PyData} {i : Nat} {v : V} {d : PyData}, xs[i]? = some v → rs[i]? = some d → (∀ j e, j < i → rs[j]? = some e → P e = true) → P d = false → badIn P xs rs = some v
  | [], _, _, _, _, e, _, _, _ => by simp at e
  | _ :: _, [], _, _, _, _, e, _, _ => by simp at e
  | x :: xs, r :: rs, 0, v, d, e1, e2, _, b => by
    obtain rfl : x = v := by simpa using e1
    obtain rfl : r = d := by simpa using e2
    unfold badIn
    rw [b]
    rfl
  | x :: xs, r :: rs, i + 1, v, d, e1, e2, ok, b => by
    unfold badIn
    rw [ok 0 r (Nat.succ_pos _) rfl, if_pos rfl]
    exact badIn_at (by simpa using e1) (by simpa using e2) (fun j e hj he => ok (j + 1) e (Nat.succ_lt_succ hj) (by simpa using he)) b
theorem badIn_no {P : PyData → Bool} : ∀ {xs : List V} {rs : List PyData}, rs.all P = true → badIn P xs rs = none
  | [], _, _ => by unfold badIn; rfl
  | _ :: _, [], _ => by unfold badIn; rfl
  | x :: xs, r :: rs, ok => by
    rw [List.all_cons, Bool.and_eq_true] at ok
    unfold badIn
    rw [ok.1, if_pos rfl]
    exact badIn_no ok.2
theorem badIn_all {P : PyData → Bool} : ∀ {xs : List V} {rs : List PyData}, xs.length = rs.length → badIn P xs rs = none → rs.all P = true
  | _, [], _, _ => rfl
  | [], r :: rs, e, _ => by simp at e
  | x :: xs, r :: rs, e, b => by
    unfold badIn at b
    split at b
    · rename_i h
      rw [List.all_cons, h, badIn_all (by simpa using e) b]
      rfl
    · cases b
/-- a value, and its members where it is a tuple -/
structure Its (K : PySem.W.Frag) (H : Hp) (v : V) (d : PyData) (xs : List V) : Prop where
  h : Dq K H v d
  x : ∀ ds, d = .tuple ds → ∃ a, v = .ref a ∧ SqT K H a xs ∧ DqAll K H xs ds
theorem Its.same (t : Its K H v d xs) (s : Same H H') : Its K H' v d xs := ⟨t.h.same s, fun ds e => by
  obtain ⟨a, e1, e2, e3⟩ := t.x ds e
  exact ⟨a, e1, e2.ext s, e3.same s⟩⟩
theorem its_of (h : Dq K H v d) : ∃ xs, Its K H v d xs := by
  rcases h.isTup with ⟨a, xs, ds, rfl, rfl, hs, ha⟩ | ⟨_, _, _, no⟩
  · exact ⟨xs, h, fun rs e => by injection e with e; subst e; exact ⟨a, rfl, hs, ha⟩⟩
  · exact ⟨[], h, fun rs e => absurd e (no rs)⟩
theorem laid_of (h : Dq K H v d) (k : laidD m o r q d = true) : ∃ a cs ps, v = .ref a ∧ d = .tuple [.tuple (cs.map datP), .tuple (ps.map datP)] ∧ Laid K H a cs ps ∧ okPs cs = true ∧ okPs ps = true ∧ InB m o cs ∧ InB r q ps ∧ (cs = [] → ps = []) := by
  unfold laidD at k
  split at k
  · rename_i da db
    rw [Bool.and_eq_true, Bool.and_eq_true] at k
    obtain ⟨⟨k1, k2⟩, k3⟩ := k
    cases h with
    | @tup a _ _ hs hd =>
      cases hd with
      | cons q0 r0 =>
        cases r0 with
        | cons q1 r1 =>
          cases r1
          obtain ⟨a1, x1, e1, rfl, rfl, hs1, ha1⟩ := pairs_tup q0 k1
          obtain ⟨a2, x2, e2, rfl, rfl, hs2, ha2⟩ := pairs_tup q1 k2
          have k1 : (e1.all (pairD m o) && okPs (e1.map prD)) = true := k1
          have k2 : (e2.all (pairD r q) && okPs (e2.map prD)) = true := k2
          rw [Bool.and_eq_true] at k1 k2
          obtain ⟨p1, f1, b1⟩ := Prs.of ha1 k1.1
          obtain ⟨p2, f2, b2⟩ := Prs.of ha2 k2.1
          refine ⟨a, e1.map prD, e2.map prD, rfl, by rw [← f1, ← f2], ⟨a1, a2, x1, x2, hs, hs1, p1, hs2, p2⟩, k1.2, k2.2, b1, b2, fun z => ?_⟩
          have z1 : e1 = [] := by simpa using z
          subst z1
          cases e2 with
          | nil => rfl
          | cons e e2 => cases k3
  · cases k
end
theorem inV_ints (i : Int) : ∀ ns : List Int, inV (.int i) (ns.map V.int) = decide (i ∈ ns) := by
  intro ns
  unfold inV
  rw [Bool.eq_iff_iff, List.any_eq_true, decide_eq_true_iff]
  constructor
  · rintro ⟨y, hy, e⟩
    obtain ⟨n, hn, rfl⟩ := List.mem_map.mp hy
    have : n = i := by simpa [eqV] using e
    rw [← this]
    exact hn
  · intro h
    exact ⟨.int i, List.mem_map.mpr ⟨i, h, rfl⟩, by simp [eqV]⟩
theorem flat_ints (ns : List Int) : (ns.map V.int).all flatV = true := by
  rw [List.all_map, List.all_eq_true]
  exact fun _ _ => rfl
theorem any_pair (i j : Int) (ps : List (Int × Int)) : ((ps.map datP).any fun z => PyData.eqv z (datP (i, j))) = decide ((i, j) ∈ ps) := by
  rw [Bool.eq_iff_iff, List.any_eq_true, decide_eq_true_iff]
  constructor
  · rintro ⟨y, hy, e⟩
    obtain ⟨n, hn, rfl⟩ := List.mem_map.mp hy
    have : n = (i, j) := by
      have : n.1 = i ∧ n.2 = j := by simpa [datP, PyData.eqv, PyData.eqvAll] using e
      exact Prod.ext this.1 this.2
    rw [← this]
    exact hn
  · intro h
    exact ⟨datP (i, j), List.mem_map.mpr ⟨_, h, rfl⟩, by simp [datP, PyData.eqv, PyData.eqvAll]⟩
theorem shaped_pair (q : Int × Int) : Shp 1 (datP q) := Shp.tup (k := 0) fun d hd => by
  simp only [List.mem_cons, List.not_mem_nil, or_false] at hd
  rcases hd with rfl | rfl <;> exact ⟨rfl, Nat.le_refl _⟩
theorem shaped_pairs (ps : List (Int × Int)) : SeqAt.shaped (.tuple (ps.map datP)) = true := by
  refine Shp.shaped (k := 2) (Shp.tup (k := 1) fun d hd => ?_) (by decide)
  obtain ⟨q, _, rfl⟩ := List.mem_map.mp hd
  exact shaped_pair q
theorem Prs.dp {K : PySem.W.Frag} {H : Hp} {xs : List V} {ps : List (Int × Int)} (h : Prs K H xs ps) : DpAll K H xs (ps.map datP) := by
  induction h with
  | nil => exact .nil
  | cons e _ ih => exact .cons (.tup e (.cons (.int _) (.cons (.int _) .nil))) ih
end Xby

set_option Elab.async false
set_option linter.all false
set_option maxRecDepth 100000
set_option maxHeartbeats 4000000
namespace Xby
open PySem L2
def datO : Option Int → PyData
  | none => .none
  | some i => .int i
def datCnd (c : Cnd) : PyData := .tuple [.str (kn c.row), datO c.i, datO c.j, .bool c.t]
structure CndOk (m o r q : Nat) (c : Cnd) : Prop where
  i : ∀ x, c.i = some x → 0 ≤ x ∧ x < ((if c.row then r else m : Nat) : Int)
  j : ∀ x, c.j = some x → 0 ≤ x ∧ x < ((if c.row then q else o : Nat) : Int)
  n : c.i ≠ none ∨ c.j ≠ none
theorem isTxt_row (row : Bool) : isTxt (.str (kn row)) "row" = row := by cases row <;> decide +kernel
theorem isTxt_col (row : Bool) : isTxt (.str (kn row)) "column" = !row := by cases row <;> decide +kernel
theorem isTxt_any (row : Bool) : (["column", "row"] : List Str).any (isTxt (.str (kn row))) = true := by cases row <;> decide +kernel
theorem cnd_back (c : Cnd) : cndD (datCnd c) = c := by
  obtain ⟨row, i, j, t⟩ := c
  unfold datCnd cndD
  simp only [isTxt_row]
  cases i <;> cases j <;> rfl
theorem cnds_back (l : List Cnd) : (l.map datCnd).map cndD = l := by
  rw [List.map_map]
  exact List.map_id'' cnd_back l
theorem okO_dat {m : Nat} {o : Option Int} (h : ∀ x, o = some x → 0 ≤ x ∧ x < (m : Int)) : okO m (datO o) = true := by
  cases o with
  | none => rfl
  | some x =>
    obtain ⟨h0, h1⟩ := h x rfl
    show (false || decide (0 ≤ x ∧ x ≤ (m : Int) - 1)) = true
    rw [decide_eq_true ⟨h0, by omega⟩]
    rfl
theorem CndOk.cond {m o r q : Nat} {c : Cnd} (h : CndOk m o r q c) : condD m o r q (datCnd c) = true := by
  show (_ && true && !(nonD (datO c.i) && nonD (datO c.j)) && (_ && _)) = true
  rw [isTxt_any, isTxt_col]
  have e1 : okO (if (!c.row) = true then m else r) (datO c.i) = true := okO_dat fun x hx => by
    have := h.i x hx
    cases hc : c.row <;> simpa [hc] using this
  have e2 : okO (if (!c.row) = true then o else q) (datO c.j) = true := okO_dat fun x hx => by
    have := h.j x hx
    cases hc : c.row <;> simpa [hc] using this
  rw [e1, e2]
  have e3 : (nonD (datO c.i) && nonD (datO c.j)) = false := by
    rcases h.n with n | n
    · cases hi : c.i with
      | none => exact absurd hi n
      | some x => rfl
    · cases hj : c.j with
      | none => exact absurd hj n
      | some x => cases c.i <;> rfl
  rw [e3]
  rfl
section
variable {K : PySem.W.Frag} {H H' : Hp} {xs : List V} {l : List Cnd} {p b : Addr} {n : Nat} {I : List V} {a : Addr} {c : Cnd}
theorem dq_vO (o : Option Int) : Dq K H (vO o) (datO o) := by cases o <;> constructor
theorem dq_cnd (h : SqT K H a [.str (kn c.row), vO c.i, vO c.j, .bl c.t]) : Dq K H (.ref a) (datCnd c) := .tup h (.cons (.str _) (.cons (dq_vO _) (.cons (dq_vO _) (.cons (.bl _) .nil))))
theorem Cnds.dq (h : Cnds K H xs l) : DqAll K H xs (l.map datCnd) := by
  induction h with
  | nil => exact .nil
  | cons e _ _ ih => exact .cons (dq_cnd e) ih
theorem Cnds.but (h : Cnds K H xs l) (pot : Pot H p n) (s : But p H H') : Cnds K H' xs l := by
  induction h with
  | nil => exact .nil
  | cons e n _ ih => exact .cons (seqBut e pot s) n ih
theorem Cnds.butL (h : Cnds K H xs l) (hb : H b = some (.lst I)) (s : But b H H') : Cnds K H' xs l := by
  induction h with
  | nil => exact .nil
  | cons e n _ ih => exact .cons (seqButL e hb s) n ih
theorem Cnds.snoc (h : Cnds K H xs l) (e : SqT K H a [.str (kn c.row), vO c.i, vO c.j, .bl c.t]) (n : c.i ≠ none ∨ c.j ≠ none) : Cnds K H (xs ++ [.ref a]) (l ++ [c]) := by
  induction h with
  | nil => exact .cons e n .nil
  | cons e' n' _ ih => exact .cons e' n' ih
theorem Cnds.app {ys : List V} {k : List Cnd} (h : Cnds K H xs l) (g : Cnds K H ys k) : Cnds K H (xs ++ ys) (l ++ k) := by
  induction h with
  | nil => exact g
  | cons e n _ ih => exact .cons e n ih
theorem Cnds.take (h : Cnds K H xs l) (m : Nat) : Cnds K H (xs.take m) (l.take m) := by
  induction h generalizing m with
  | nil => cases m <;> exact .nil
  | cons e n _ ih =>
    cases m with
    | zero => exact .nil
    | succ m => exact .cons e n (ih m)
theorem Cnds.rep (h : Cnds K H xs l) : ∀ m : Nat, Cnds K H (List.replicate m xs).flatten (List.replicate m l).flatten
  | 0 => .nil
  | m + 1 => by
    rw [List.replicate_succ, List.replicate_succ, List.flatten_cons, List.flatten_cons]
    exact h.app (Cnds.rep h m)
theorem Cnds.its (h : Cnds K H xs l) (ha : SqT K H a xs) : Its K H (.ref a) (.tuple (l.map datCnd)) xs := ⟨.tup ha h.dq, fun ds e => by injection e with e; subst e; exact ⟨a, rfl, ha, h.dq⟩⟩
end
theorem bad_none {m o r q : Nat} {v : V} {xs : List V} {l : List Cnd} (few : l.length ≤ 40) (ok : ∀ c ∈ l, CndOk m o r q c) : badConds m o r q v (.tuple (l.map datCnd)) xs = none := by
  have nb : ¬ 40 < (l.map datCnd).length := by rw [List.length_map]; omega
  have e : badConds m o r q v (.tuple (l.map datCnd)) xs = badIn (condD m o r q) xs (l.map datCnd) := if_neg nb
  rw [e]
  refine badIn_no ?_
  rw [List.all_map, List.all_eq_true]
  exact fun c hc => (ok c hc).cond
def soB (cs ps : List (Int × Int)) (c : Cnd) : Bool := holdsP (if c.row then ps else cs) c.i c.j
theorem keep_all (cs ps : List (Int × Int)) : ∀ l : List Cnd, keepB cs ps l = l.all fun c => soB cs ps c == c.t
  | [] => rfl
  | c :: l => by
    have ih := keep_all cs ps l
    unfold keepB keepP at ih ⊢
    rw [List.all_cons, ← ih]
    cases hc : c.row with
    | true =>
      have e1 : ((c :: l).filter fun c => c.row == false) = l.filter fun c => c.row == false := by simp [hc]
      have e2 : ((c :: l).filter fun c => c.row == true) = c :: l.filter fun c => c.row == true := by simp [hc]
      rw [e1, e2, List.all_cons]
      have e3 : soB cs ps c = holdsP ps c.i c.j := by unfold soB; rw [hc]; rfl
      rw [e3]
      generalize (holdsP ps c.i c.j == c.t) = x
      generalize List.all _ _ = y
      generalize List.all _ _ = z
      cases x <;> cases y <;> cases z <;> rfl
    | false =>
      have e1 : ((c :: l).filter fun c => c.row == false) = c :: l.filter fun c => c.row == false := by simp [hc]
      have e2 : ((c :: l).filter fun c => c.row == true) = l.filter fun c => c.row == true := by simp [hc]
      rw [e1, e2, List.all_cons]
      have e3 : soB cs ps c = holdsP cs c.i c.j := by unfold soB; rw [hc]; rfl
      rw [e3, Bool.and_assoc]
theorem keepD_of {cs ps : List (Int × Int)} {l : List Cnd} : (match PyData.tuple [.tuple (cs.map datP), .tuple (ps.map datP)], PyData.tuple (l.map datCnd) with
  | .tuple [.tuple a, .tuple b], .tuple ds => keepB (a.map Xby.prD) (b.map Xby.prD) (ds.map cndD)
  | _, _ => false) = keepB cs ps l := by
  have e1 : ∀ l : List (Int × Int), (l.map datP).map Xby.prD = l := fun l => by
    rw [List.map_map]
    exact List.map_id'' (fun q => rfl) l
  show keepB ((cs.map datP).map Xby.prD) ((ps.map datP).map Xby.prD) ((l.map datCnd).map cndD) = _
  rw [e1, e1, cnds_back]
end Xby
namespace Xby
open PySem L2
theorem cr_maxK {X : Cx} (K : PySem.W.Frag) (hK : X.K = K) (hc : X.calm = true) : CallR X (.builtin "max") (rMax K) := by
  subst hK
  exact cr_max hc
end Xby

set_option Elab.async false
set_option linter.all false
set_option maxRecDepth 100000
set_option maxHeartbeats 4000000
namespace Xby
open PySem L2
section
variable {K : PySem.W.Frag} {C : Addr} {H H' H0 : Hp} {p B b one other a : Addr} {xs I : List V} {n m : Nat} {cs ps : List (Int × Int)} {hs ks : List Str} {rs qs : List (List V)} {l : List Cnd} {c : Cnd} {x : V}
theorem But.back (s : But p H H') (n : H' b = none) (ne : b ≠ p) : H b = none := by
  cases e : H b with
  | none => rfl
  | some o =>
    have := s b o ne e
    rw [n] at this
    cases this
theorem Prs.butL (h : Prs K H xs ps) (hb : H b = some (.lst I)) (s : But b H H') : Prs K H' xs ps := by
  induction h with
  | nil => exact .nil
  | cons e _ ih => exact .cons (seqButL e hb s) ih
theorem Laid.butL (h : Laid K H a cs ps) (hb : H b = some (.lst I)) (s : But b H H') : Laid K H' a cs ps := by
  obtain ⟨a1, a2, x1, x2, h1, h2, h3, h4, h5⟩ := h
  exact ⟨a1, a2, x1, x2, seqButL h1 hb s, seqButL h2 hb s, h3.butL hb s, seqButL h4 hb s, h5.butL hb s⟩
/-- a list of conditions that grows, beside tables and an alignment -/
structure Wn (K : PySem.W.Frag) (C p one other a B : Addr) (H0 : Hp) (hs ks : List Str) (rs qs : List (List V)) (cs ps : List (Int × Int)) (m : Nat) (xs : List V) (l : List Cnd) (H : Hp) : Prop where
  hB : H B = some (.lst xs)
  ne : B ≠ p
  cn : Cnds K H xs l
  ok : ∀ c ∈ l, CndOk hs.length ks.length rs.length qs.length c
  laid : Laid K H a cs ps
  t1 : IsTab K C H one hs rs
  t2 : IsTab K C H other ks qs
  pot : Pot H p m
  but : But p H0 H
  nw : H0 B = none
theorem Wn.next (s : Wn K C p one other a B H0 hs ks rs qs cs ps m xs l H) (b : But p H H') (pot : Pot H' p n) : Wn K C p one other a B H0 hs ks rs qs cs ps n xs l H' :=
  ⟨b _ _ s.ne s.hB, s.ne, s.cn.but s.pot b, s.ok, s.laid.but s.pot b, s.t1.but s.pot b, s.t2.but s.pot b, pot, s.but.trans b, s.nw⟩
theorem Wn.same (s : Wn K C p one other a B H0 hs ks rs qs cs ps m xs l H) (b : Same H H') : Wn K C p one other a B H0 hs ks rs qs cs ps m xs l H' := s.next (But.of b) (s.pot.same b)
theorem Wn.more (s : Wn K C p one other a B H0 hs ks rs qs cs ps m xs l H) (h : m ≤ n) : Wn K C p one other a B H0 hs ks rs qs cs ps n xs l H := ⟨s.hB, s.ne, s.cn, s.ok, s.laid, s.t1, s.t2, s.pot.more h, s.but, s.nw⟩
theorem Wn.add (s : Wn K C p one other a B H0 hs ks rs qs cs ps m xs l H) (e : SqT K H b [.str (kn c.row), vO c.i, vO c.j, .bl c.t]) (o : CndOk hs.length ks.length rs.length qs.length c) :
    Wn K C p one other a B H0 hs ks rs qs cs ps m (xs ++ [.ref b]) (l ++ [c]) (upd H B (.lst (xs ++ [.ref b]))) := by
  refine ⟨upd_same, s.ne, (s.cn.snoc e o.n).butL s.hB But.upd1, fun d hd => ?_, s.laid.butL s.hB But.upd1, s.t1.butL s.hB But.upd1, s.t2.butL s.hB But.upd1, s.pot.upd s.ne.symm, s.but.updN s.nw, s.nw⟩
  rcases List.mem_append.mp hd with hd | hd
  · exact s.ok d hd
  · obtain rfl : d = c := by simpa using hd
    exact o
theorem Wn.line (s : Wn K C p one other a B H0 hs ks rs qs cs ps m xs l H) (few : l.length ≤ 1000) : xs.length < sizeLine := by
  have := s.cn.len
  have : sizeLine = 16777216 := sizeLine_eq
  omega
end
theorem CndOk.other {m o r q : Nat} {c : Cnd} (h : CndOk m o r q c) (t : Bool) : CndOk m o r q ⟨c.row, c.i, c.j, t⟩ := ⟨h.i, h.j, h.n⟩
end Xby
namespace Xby
open PySem L2
theorem kinds_of {K : PySem.W.Frag} {KN : Addr} {od : Option Addr} {u1 u2 : Tok} {n : Nat} {sl : Array (Option Value)} (h : K.lookup KN = some ⟨.type "tuple", od, .seq #[.str "column" u1, .str "row" u2] n, sl⟩) (H : Hp) : SqT K H KN ((["column", "row"] : List Str).map V.str) := by
  have v : Vals [V.str "column", V.str "row"] [Value.str "column" u1, Value.str "row" u2] := .cons ⟨_, rfl⟩ (.cons ⟨_, rfl⟩ .nil)
  exact seqLookup h rfl rfl (by show 2 ≤ sizeLine; decide) v H
end Xby

set_option linter.all false
/-! # the longest rise, two ways, of at most three places -/
namespace Xby
def maxDef0 (d : Int) : List Int → Int
  | [] => d
  | n :: ns => ns.foldl max n
def lens (ns : List Int) : Nat → List Int
  | 0 => []
  | i + 1 => lens ns i ++ [1 + maxDef0 0 (((List.range i).filter fun k => decide (ns.getD k 0 < ns.getD i 0)).map fun k => (lens ns i).getD k 0)]
def riseN (ns : List Int) : Int := maxDef0 0 (lens ns ns.length)
theorem lens_len (ns : List Int) : ∀ i, (lens ns i).length = i
  | 0 => rfl
  | i + 1 => by
    unfold lens
    rw [List.length_append, lens_len ns i]
    rfl
/-- all subsequences, as the law lays them out -/
def subsOf (ns : List Int) : List (List Int) := ns.foldl (fun s p => s ++ s.map (· ++ [p])) [[]]
def sortedB (l : List Int) : Bool := decide (l.Pairwise (· ≤ ·))
def bestOf (ns : List Int) : List Int := ((subsOf ns).filter sortedB).map fun l => (l.length : Int)
theorem rise0 : riseN [] ∈ bestOf [] ∧ ∀ y ∈ bestOf [], y ≤ riseN [] := by decide +kernel
theorem rise1 : ∀ a : Fin 3, riseN [(a.val : Int)] ∈ bestOf [(a.val : Int)] ∧ ∀ y ∈ bestOf [(a.val : Int)], y ≤ riseN [(a.val : Int)] := by decide +kernel
theorem rise2 : ∀ a b : Fin 3, a ≠ b → riseN [(a.val : Int), (b.val : Int)] ∈ bestOf [(a.val : Int), (b.val : Int)] ∧ ∀ y ∈ bestOf [(a.val : Int), (b.val : Int)], y ≤ riseN [(a.val : Int), (b.val : Int)] := by decide +kernel
theorem rise3 : ∀ a b c : Fin 3, a ≠ b → a ≠ c → b ≠ c → riseN [(a.val : Int), (b.val : Int), (c.val : Int)] ∈ bestOf [(a.val : Int), (b.val : Int), (c.val : Int)] ∧ ∀ y ∈ bestOf [(a.val : Int), (b.val : Int), (c.val : Int)], y ≤ riseN [(a.val : Int), (b.val : Int), (c.val : Int)] := by decide +kernel
theorem fin3 {x : Int} (h : 0 ≤ x ∧ x < 3) : ∃ a : Fin 3, x = (a.val : Int) := ⟨⟨x.toNat, by omega⟩, by simp; omega⟩
theorem rise_best (ns : List Int) (few : ns.length ≤ 3) (lo : ∀ x ∈ ns, 0 ≤ x ∧ x < 3) (nd : ns.Nodup) : riseN ns ∈ bestOf ns ∧ ∀ y ∈ bestOf ns, y ≤ riseN ns := by
  match ns, few, lo, nd with
  | [], _, _, _ => exact rise0
  | [x], _, lo, _ =>
    obtain ⟨a, rfl⟩ := fin3 (lo x (by simp))
    exact rise1 a
  | [x, y], _, lo, nd =>
    obtain ⟨a, rfl⟩ := fin3 (lo x (by simp))
    obtain ⟨b, rfl⟩ := fin3 (lo y (by simp))
    exact rise2 a b (by rintro rfl; simp at nd)
  | [x, y, z], _, lo, nd =>
    obtain ⟨a, rfl⟩ := fin3 (lo x (by simp))
    obtain ⟨b, rfl⟩ := fin3 (lo y (by simp))
    obtain ⟨c, rfl⟩ := fin3 (lo z (by simp))
    exact rise3 a b c (by rintro rfl; simp at nd) (by rintro rfl; simp at nd) (by rintro rfl; simp at nd)
theorem max_unique {l : List Int} {m r : Int} (h1 : m ∈ l) (h2 : ∀ y ∈ l, y ≤ m) (h3 : r ∈ l) (h4 : ∀ y ∈ l, y ≤ r) : m = r := Int.le_antisymm (h4 m h1) (h2 r h3)
/-- sums, one way and the other -/
theorem sum_swap {α β : Type} (f : α → β → Int) (xs : List α) (ys : List β) : (xs.map fun x => (ys.map fun y => f x y).sum).sum = (ys.map fun y => (xs.map fun x => f x y).sum).sum := by
  induction xs with
  | nil =>
    simp only [List.map_nil, List.sum_nil]
    induction ys with
    | nil => rfl
    | cons y ys ih => simp [← ih]
  | cons x xs ih =>
    simp only [List.map_cons, List.sum_cons, ih]
    clear ih
    induction ys with
    | nil => rfl
    | cons y ys ih =>
      simp only [List.map_cons, List.sum_cons]
      omega
theorem sum_mul (c : Int) {α : Type} (f : α → Int) (xs : List α) : (xs.map fun x => c * f x).sum = c * (xs.map f).sum := by
  induction xs with
  | nil => simp
  | cons x xs ih => simp only [List.map_cons, List.sum_cons, ih, Int.mul_add]
theorem sum_add {α : Type} (f g : α → Int) (xs : List α) : (xs.map fun x => f x + g x).sum = (xs.map f).sum + (xs.map g).sum := by
  induction xs with
  | nil => rfl
  | cons x xs ih => simp only [List.map_cons, List.sum_cons, ih]; omega
theorem count_sum {α : Type} (p : α → Bool) (xs : List α) : ((xs.filter p).length : Int) = (xs.map fun x => if p x then (1 : Int) else 0).sum := by
  induction xs with
  | nil => rfl
  | cons x xs ih =>
    simp only [List.map_cons, List.sum_cons, ← ih]
    cases h : p x
    · simp [h]
    · simp [h]; omega
end Xby

set_option Elab.async false
set_option linter.all false
set_option maxRecDepth 100000
set_option maxHeartbeats 4000000
/-! # costs -/
namespace Xby
open PySem L2
structure Bill where
  cell : Int
  row : Int
  column : Int
  name : Int
  move : Int
def fldsC (a b c d e : V) : List (Str × V) := putF "move" e (putF "name" d (putF "column" c (putF "row" b (putF "cell" a []))))
def fldB (b : Bill) : List (Str × V) := fldsC (.int b.cell) (.int b.row) (.int b.column) (.int b.name) (.int b.move)
section
variable (a b c d e : V)
theorem l_cell : (fldsC a b c d e).lookup ("cell" : Str) = some a := by
  unfold fldsC
  rw [lookup_putF, if_neg (by decide +kernel), lookup_putF, if_neg (by decide +kernel), lookup_putF, if_neg (by decide +kernel), lookup_putF, if_neg (by decide +kernel), lookup_putF, if_pos rfl]
theorem l_row : (fldsC a b c d e).lookup ("row" : Str) = some b := by
  unfold fldsC
  rw [lookup_putF, if_neg (by decide +kernel), lookup_putF, if_neg (by decide +kernel), lookup_putF, if_neg (by decide +kernel), lookup_putF, if_pos rfl]
theorem l_column : (fldsC a b c d e).lookup ("column" : Str) = some c := by
  unfold fldsC
  rw [lookup_putF, if_neg (by decide +kernel), lookup_putF, if_neg (by decide +kernel), lookup_putF, if_pos rfl]
theorem l_name : (fldsC a b c d e).lookup ("name" : Str) = some d := by
  unfold fldsC
  rw [lookup_putF, if_neg (by decide +kernel), lookup_putF, if_pos rfl]
theorem l_move : (fldsC a b c d e).lookup ("move" : Str) = some e := by
  unfold fldsC
  rw [lookup_putF, if_pos rfl]
end
def BillOk (b : Bill) : Prop := (1 ≤ b.cell ∧ b.cell ≤ 50) ∧ (1 ≤ b.row ∧ b.row ≤ 50) ∧ (1 ≤ b.column ∧ b.column ≤ 50) ∧ (1 ≤ b.name ∧ b.name ≤ 50) ∧ (1 ≤ b.move ∧ b.move ≤ 50)
def IsCosts (CC : Addr) (H : Hp) (a : Addr) (b : Bill) : Prop := ∃ dx, H a = some (.ins CC dx (fldB b))
structure TxtC (K : PySem.W.Frag) (mg : Str → Option Value) extends Txt K mg where
  EA : Addr
  iA : Addr
  eA : PySem.LowV.LowTxt K mg "BadAlignment" "BadAlignment.__init__" EA iA
  CC : Addr
  CB : Addr
  iC : Addr
  t6 : Tok
  t7 : Tok
  low : PySem.LowV.LowTxt K mg "BadCost" "BadCost.__init__" CB iC
  clC : Cls K CC
  n_cell : NoAttr K CC "cell"
  n_row : NoAttr K CC "row"
  n_column : NoAttr K CC "column"
  n_name : NoAttr K CC "name"
  n_move : NoAttr K CC "move"
  g_Costs : mg "Costs" = some (.ref CC)
  c_LEAST_COST : mg "LEAST_COST" = some (.int 1 t6)
  c_GREATEST_COST : mg "GREATEST_COST" = some (.int 50 t7)
section
variable {CC : Addr} {H H' : Hp} {a p : Addr} {b : Bill} {n : Nat}
theorem IsCosts.same (h : IsCosts CC H a b) (s : Same H H') : IsCosts CC H' a b := by
  obtain ⟨dx, h⟩ := h
  exact ⟨dx, s _ _ h⟩
theorem IsCosts.but (h : IsCosts CC H a b) (pot : Pot H p n) (s : But p H H') : IsCosts CC H' a b := by
  obtain ⟨dx, h⟩ := h
  refine ⟨dx, s _ _ ?_ h⟩
  rintro rfl
  obtain ⟨_, _, _, q, _⟩ := pot
  rw [h] at q
  cases q
end
/-- what things cost -/
def nmNe (hs ks : List Str) (q : Int × Int) : Bool := !decide (V.str (hs.getD q.1.toNat Str.empty) = V.str (ks.getD q.2.toNat Str.empty))
def colN (b : Bill) (hs ks : List Str) (cs : List (Int × Int)) : Int :=
  b.column * ((hs.length : Int) + (ks.length : Int) - 2 * (cs.length : Int)) + b.name * ((cs.filter (nmNe hs ks)).length : Int) + b.move * ((cs.length : Int) - riseN (cs.map (·.2)))
def clNe (r q : List V) (c : Int × Int) : Bool := !decide (r.getD c.1.toNat .non = q.getD c.2.toNat .non)
def unl (r q : List V) (cs : List (Int × Int)) : Int := ((cs.filter (clNe r q)).length : Int)
def unlS (rs qs : List (List V)) (cs ps : List (Int × Int)) : Int := (ps.map fun p => unl (rs.getD p.1.toNat []) (qs.getD p.2.toNat []) cs).sum
def costN (b : Bill) (hs ks : List Str) (rs qs : List (List V)) (cs ps : List (Int × Int)) : Int :=
  colN b hs ks cs + b.row * ((rs.length : Int) + (qs.length : Int) - 2 * (ps.length : Int)) + b.cell * unlS rs qs cs ps
theorem scal_cell {x y : V} (hx : cellV x = true) (hy : cellV y = true) : scal x y = true := by
  have fx := cellV_flat hx
  have fy := cellV_flat hy
  have nb : ∀ {v : V}, cellV v = true → ∀ b, v ≠ .bl b := fun {v} h b e => by
    subst e
    have := cellV_cell h
    cases this
  cases x <;> cases y <;> first | rfl | exact absurd rfl (nb hx _) | exact absurd rfl (nb hy _) | cases fx; done | cases fy
theorem maxDef_eq : maxDef = maxDef0 := by
  funext d l
  cases l <;> rfl
theorem Prs.bnd {K : PySem.W.Frag} {H : Hp} {xs : List V} {ps : List (Int × Int)} {m o : Nat} (inb : InB m o ps) {i : Nat} (hi : i < ps.length) : (0 ≤ (ps.getD i (0, 0)).1 ∧ (ps.getD i (0, 0)).1 < m) ∧ 0 ≤ (ps.getD i (0, 0)).2 ∧ (ps.getD i (0, 0)).2 < o := by
  have : ps.getD i (0, 0) ∈ ps := by
    rw [List.getD_eq_getElem?_getD, List.getElem?_eq_getElem hi]
    exact List.getElem_mem hi
  exact inb _ this
theorem atI_map {α : Type} (f : α → V) (d : α) {xs : List α} {i : Int} (h0 : 0 ≤ i) (h1 : i < xs.length) : atI (xs.map f) i = some (f (xs.getD i.toNat d)) := by
  have hi : i.toNat < xs.length := by omega
  have e : (xs.map f)[i.toNat]? = some (f (xs.getD i.toNat d)) := by simp [hi]
  have := atI_nat e
  rw [Int.toNat_of_nonneg h0] at this
  exact this
theorem atI_own {xs : List V} (d : V) {i : Int} (h0 : 0 ≤ i) (h1 : i < xs.length) : atI xs i = some (xs.getD i.toNat d) := by
  have := atI_map id d (xs := xs) h0 h1
  rw [List.map_id] at this
  exact this
theorem RowsK.at_ {K : PySem.W.Frag} {H : Hp} {wd : Nat} {xs : List V} {rs : List (List V)} (h : RowsK K H wd xs rs) {i : Int} (h0 : 0 ≤ i) (h1 : i < rs.length) : ∃ b, atI xs i = some (.ref b) ∧ SqT K H b (rs.getD i.toNat []) ∧ (rs.getD i.toNat []).length = wd ∧ ∀ v ∈ rs.getD i.toNat [], cellV v = true := by
  have l := h.len
  have hi : i.toNat < xs.length := by omega
  obtain ⟨b, r, e1, e2, e3, e4, e5⟩ := h.get (List.getElem?_eq_getElem hi)
  have e6 : rs.getD i.toNat [] = r := by rw [List.getD_eq_getElem?_getD, e2]; rfl
  have := atI_nat (List.getElem?_eq_getElem hi)
  rw [Int.toNat_of_nonneg h0, e1] at this
  rw [e6]
  exact ⟨b, this, e3, e4, e5⟩
end Xby
namespace Xby
open PySem L2
section
variable {X : Cx}
theorem pi_enumK (K : PySem.W.Frag) (hK : X.K = K) {e : Expr} {ta : TA} {p pos tpos : Pos} {elts : List Expr} {kk : Nat} (hg : Gl X "enumerate") (hm : X.mg "enumerate" = none) (ha : PA X [e] ta) (hs : starEach [e] X.env = [(false, eval e X.env)] := by rfl) :
    PI X (.Tuple elts kk tpos) (.Call (.Name "enumerate" p) [e] [] pos) (iEnum K ta) := by
  subst hK
  exact pi_enum hg hm ha hs
theorem cr_sumK (K : PySem.W.Frag) (hK : X.K = K) (hc : X.calm = true) : CallR X (.builtin "sum") (rSum K) := by
  subst hK
  exact cr_sum hc
theorem cr_sortedK (K : PySem.W.Frag) (hK : X.K = K) : CallR X (.builtin "sorted") (rSorted K) := by
  subst hK
  exact cr_sorted
end
end Xby

set_option Elab.async false
set_option linter.all false
set_option maxRecDepth 100000
set_option maxHeartbeats 4000000
/-! # an alignment seen from the other side costs the same -/
namespace Xby
open PySem L2
def swp (q : Int × Int) : Int × Int := (q.2, q.1)
def insP (q : Int × Int) : List (Int × Int) → List (Int × Int)
  | [] => [q]
  | r :: l => if q.1 < r.1 then q :: r :: l else r :: insP q l
def invP (l : List (Int × Int)) : List (Int × Int) := (l.map swp).foldr insP []
theorem insP_perm (q : Int × Int) : ∀ l, (insP q l).Perm (q :: l)
  | [] => List.Perm.refl _
  | r :: l => by
    unfold insP
    split
    · exact List.Perm.refl _
    · exact ((insP_perm q l).cons r).trans (List.Perm.swap q r l)
theorem foldP_perm : ∀ l : List (Int × Int), (l.foldr insP []).Perm l
  | [] => List.Perm.refl _
  | q :: l => by
    rw [List.foldr_cons]
    exact (insP_perm q _).trans ((foldP_perm l).cons q)
theorem invP_perm (l : List (Int × Int)) : (invP l).Perm (l.map swp) := foldP_perm _
def turnOk (l : List (Int × Int)) : Bool := decide (((invP l).map (·.1)).Pairwise (· < ·)) && decide (riseN ((invP l).map (·.2)) = riseN (l.map (·.2)))
theorem turn1 : ∀ a b : Fin 3, turnOk [((a.val : Int), (b.val : Int))] = true := by decide +kernel
theorem turn2 : ∀ a b c d : Fin 3, okPs [((a.val : Int), (b.val : Int)), ((c.val : Int), (d.val : Int))] = true → turnOk [((a.val : Int), (b.val : Int)), ((c.val : Int), (d.val : Int))] = true := by decide +kernel
theorem turn3 : ∀ a b c d e f : Fin 3, okPs [((a.val : Int), (b.val : Int)), ((c.val : Int), (d.val : Int)), ((e.val : Int), (f.val : Int))] = true → turnOk [((a.val : Int), (b.val : Int)), ((c.val : Int), (d.val : Int)), ((e.val : Int), (f.val : Int))] = true := by decide +kernel
theorem fin3P {q : Int × Int} (h : (0 ≤ q.1 ∧ q.1 < 3) ∧ 0 ≤ q.2 ∧ q.2 < 3) : ∃ a b : Fin 3, q = ((a.val : Int), (b.val : Int)) := by
  obtain ⟨a, ha⟩ := fin3 h.1
  obtain ⟨b, hb⟩ := fin3 h.2
  exact ⟨a, b, Prod.ext ha hb⟩
theorem turn_ok {cs : List (Int × Int)} (few : cs.length ≤ 3) (ok : okPs cs = true) (inb : ∀ q ∈ cs, (0 ≤ q.1 ∧ q.1 < 3) ∧ 0 ≤ q.2 ∧ q.2 < 3) : turnOk cs = true := by
  match cs, few, ok, inb with
  | [], _, _, _ => decide
  | [x], _, ok, inb =>
    obtain ⟨a, b, rfl⟩ := fin3P (inb x (by simp))
    exact turn1 a b
  | [x, y], _, ok, inb =>
    obtain ⟨a, b, rfl⟩ := fin3P (inb x (by simp))
    obtain ⟨c, d, rfl⟩ := fin3P (inb y (by simp))
    exact turn2 a b c d ok
  | [x, y, z], _, ok, inb =>
    obtain ⟨a, b, rfl⟩ := fin3P (inb x (by simp))
    obtain ⟨c, d, rfl⟩ := fin3P (inb y (by simp))
    obtain ⟨e, f, rfl⟩ := fin3P (inb z (by simp))
    exact turn3 a b c d e f ok
theorem rise_turn {cs cs' : List (Int × Int)} (few : cs.length ≤ 3) (ok : okPs cs = true) (inb : ∀ q ∈ cs, (0 ≤ q.1 ∧ q.1 < 3) ∧ 0 ≤ q.2 ∧ q.2 < 3) (pm : cs'.Perm (cs.map swp)) (asc : (cs'.map (·.1)).Pairwise (· < ·)) :
    riseN (cs'.map (·.2)) = riseN (cs.map (·.2)) := by
  have t := turn_ok few ok inb
  unfold turnOk at t
  rw [Bool.and_eq_true] at t
  have t1 := of_decide_eq_true t.1
  have t2 := of_decide_eq_true t.2
  have e : cs' = invP cs := (pm.trans (invP_perm cs).symm).eq_of_pairwise (le := fun a b : Int × Int => a.1 < b.1) (fun x y _ _ h1 h2 => absurd (Int.lt_trans h1 h2) (Int.lt_irrefl _)) (List.pairwise_map.mp asc) (List.pairwise_map.mp t1)
  rw [e]
  exact t2
theorem perm_sum {l m : List Int} (p : l.Perm m) : l.sum = m.sum := by
  induction p with
  | nil => rfl
  | cons x _ ih => rw [List.sum_cons, List.sum_cons, ih]
  | swap x y l => simp only [List.sum_cons]; omega
  | trans _ _ a b => rw [a, b]
theorem filter_turn {p q : Int × Int → Bool} (h : ∀ x, p (swp x) = q x) {cs cs' : List (Int × Int)} (pm : cs'.Perm (cs.map swp)) : (cs'.filter p).length = (cs.filter q).length := by
  rw [(pm.filter p).length_eq, List.filter_map, List.length_map]
  congr 2
  funext x
  exact h x
theorem dec_symm {a b : V} : decide (a = b) = decide (b = a) := by
  by_cases h : a = b
  · rw [h]
  · rw [decide_eq_false h, decide_eq_false fun z => h z.symm]
theorem unl_turn {r q : List V} {cs cs' : List (Int × Int)} (pm : cs'.Perm (cs.map swp)) : unl q r cs' = unl r q cs := by
  unfold unl
  rw [filter_turn (q := clNe r q) (fun x => by unfold clNe swp; rw [dec_symm]) pm]
theorem unlS_turn {rs qs : List (List V)} {cs cs' ps ps' : List (Int × Int)} (pc : cs'.Perm (cs.map swp)) (pp : ps'.Perm (ps.map swp)) : unlS qs rs cs' ps' = unlS rs qs cs ps := by
  unfold unlS
  rw [perm_sum (pp.map _), List.map_map]
  congr 1
  exact List.map_congr_left fun p _ => unl_turn pc
theorem cost_turn {b : Bill} {hs ks : List Str} {rs qs : List (List V)} {cs ps cs' ps' : List (Int × Int)} (few : cs.length ≤ 3) (ok : okPs cs = true) (inb : ∀ q ∈ cs, (0 ≤ q.1 ∧ q.1 < 3) ∧ 0 ≤ q.2 ∧ q.2 < 3)
    (pc : cs'.Perm (cs.map swp)) (asc : (cs'.map (·.1)).Pairwise (· < ·)) (pp : ps'.Perm (ps.map swp)) : costN b ks hs qs rs cs' ps' = costN b hs ks rs qs cs ps := by
  have lc := pc.length_eq
  have lp := pp.length_eq
  rw [List.length_map] at lc lp
  unfold costN colN
  rw [rise_turn few ok inb pc asc, unlS_turn pc pp, filter_turn (q := nmNe hs ks) (fun x => by unfold nmNe swp; rw [dec_symm]) pc, lc, lp, Int.add_comm (ks.length : Int), Int.add_comm (qs.length : Int)]
end Xby

set_option Elab.async false
set_option linter.all false
set_option maxRecDepth 100000
set_option maxHeartbeats 4000000
/-! # alignments one behind another: what both together cost -/
namespace Xby
open PySem L2
def lookP (qs : List (Int × Int)) (j : Int) : Option Int := (qs.find? fun q => decide (q.1 = j)).map (·.2)
def joinP (ps qs : List (Int × Int)) : List (Int × Int) := ps.filterMap fun p => (lookP qs p.2).map fun k => (p.1, k)
def dupP (ps : List (Int × Int)) : List (Int × Int) := ps.map fun p => (p.1, p.1)
theorem lookP_mem {qs : List (Int × Int)} {j k : Int} (h : lookP qs j = some k) : (j, k) ∈ qs := by
  unfold lookP at h
  rw [Option.map_eq_some_iff] at h
  obtain ⟨q, e, rfl⟩ := h
  have e1 : decide (q.1 = j) = true := List.find?_some (p := fun q : Int × Int => decide (q.1 = j)) e
  have e1 := of_decide_eq_true e1
  have m := List.mem_of_find?_eq_some e
  rw [← e1]
  exact m
theorem lookP_of {qs : List (Int × Int)} (nd : (qs.map (·.1)).Nodup) {j k : Int} (h : (j, k) ∈ qs) : lookP qs j = some k := by
  induction qs with
  | nil => simp at h
  | cons q qs ih =>
    rw [List.map_cons, List.nodup_cons] at nd
    unfold lookP
    rw [List.find?_cons]
    rcases List.mem_cons.mp h with rfl | h
    · simp
    · have ne : ¬ q.1 = j := fun e => nd.1 (List.mem_map.mpr ⟨_, h, e.symm⟩)
      rw [decide_eq_false ne]
      exact ih nd.2 h
theorem joinP_nil (qs : List (Int × Int)) : joinP [] qs = [] := rfl
theorem joinP_cons (p : Int × Int) (ps qs : List (Int × Int)) : joinP (p :: ps) qs = (match lookP qs p.2 with | some k => [(p.1, k)] | none => []) ++ joinP ps qs := by
  unfold joinP
  rw [List.filterMap_cons]
  cases lookP qs p.2 <;> rfl
theorem joinP_mem {ps qs : List (Int × Int)} {x : Int × Int} (h : x ∈ joinP ps qs) : ∃ j, (x.1, j) ∈ ps ∧ lookP qs j = some x.2 := by
  unfold joinP at h
  obtain ⟨p, hp, e⟩ := List.mem_filterMap.mp h
  rw [Option.map_eq_some_iff] at e
  obtain ⟨k, e, rfl⟩ := e
  exact ⟨p.2, hp, e⟩
theorem okPs_fst {ps : List (Int × Int)} (h : okPs ps = true) : (ps.map (·.1)).Pairwise (· < ·) := by
  unfold okPs at h
  rw [Bool.and_eq_true] at h
  exact of_decide_eq_true h.1
theorem okPs_snd {ps : List (Int × Int)} (h : okPs ps = true) : (ps.map (·.2)).Nodup := by
  unfold okPs at h
  rw [Bool.and_eq_true] at h
  exact of_decide_eq_true h.2
theorem okPs_mk {ps : List (Int × Int)} (h1 : (ps.map (·.1)).Pairwise (· < ·)) (h2 : (ps.map (·.2)).Nodup) : okPs ps = true := by
  unfold okPs
  rw [decide_eq_true h1, decide_eq_true h2]
  rfl
theorem asc_nodup {l : List Int} (h : l.Pairwise (· < ·)) : l.Nodup := h.imp fun h => Int.ne_of_lt h
theorem joinP_fst (ps qs : List (Int × Int)) : ((joinP ps qs).map (·.1)).Sublist (ps.map (·.1)) := by
  induction ps with
  | nil => exact List.Sublist.refl _
  | cons p ps ih =>
    rw [joinP_cons, List.map_append, List.map_cons]
    cases lookP qs p.2 with
    | none => exact ih.cons _
    | some k => exact ih.cons_cons _
theorem snd_inj {qs : List (Int × Int)} (nd : (qs.map (·.2)).Nodup) {i j k : Int} (h1 : (i, k) ∈ qs) (h2 : (j, k) ∈ qs) : i = j := by
  induction qs with
  | nil => simp at h1
  | cons q qs ih =>
    rw [List.map_cons, List.nodup_cons] at nd
    rcases List.mem_cons.mp h1 with e1 | h1 <;> rcases List.mem_cons.mp h2 with e2 | h2
    · exact congrArg (·.1) (e1.trans e2.symm)
    · exact absurd (List.mem_map.mpr ⟨_, h2, by rw [← e1]⟩) nd.1
    · exact absurd (List.mem_map.mpr ⟨_, h1, by rw [← e2]⟩) nd.1
    · exact ih nd.2 h1 h2
theorem joinP_snd {ps qs : List (Int × Int)} (n1 : (ps.map (·.2)).Nodup) (n2 : (qs.map (·.2)).Nodup) : ((joinP ps qs).map (·.2)).Nodup := by
  induction ps with
  | nil => simp [joinP_nil]
  | cons p ps ih =>
    rw [List.map_cons, List.nodup_cons] at n1
    rw [joinP_cons]
    cases e : lookP qs p.2 with
    | none => exact ih n1.2
    | some k =>
      show (k :: (joinP ps qs).map (·.2)).Nodup
      rw [List.nodup_cons]
      refine ⟨fun m => ?_, ih n1.2⟩
      obtain ⟨x, hx, rfl⟩ := List.mem_map.mp m
      obtain ⟨j, hj, ej⟩ := joinP_mem hx
      have := snd_inj n2 (lookP_mem e) (lookP_mem ej)
      exact n1.1 (List.mem_map.mpr ⟨_, hj, this.symm⟩)
theorem joinP_ok {ps qs : List (Int × Int)} (h1 : okPs ps = true) (h2 : okPs qs = true) : okPs (joinP ps qs) = true :=
  okPs_mk ((okPs_fst h1).sublist (joinP_fst ps qs)) (joinP_snd (okPs_snd h1) (okPs_snd h2))
theorem joinP_in {ps qs : List (Int × Int)} {a b c : Nat} (h1 : InB a b ps) (h2 : InB b c qs) : InB a c (joinP ps qs) := fun x hx => by
  obtain ⟨j, hj, e⟩ := joinP_mem hx
  exact ⟨(h1 _ hj).1, (h2 _ (lookP_mem e)).2⟩
theorem nodup_len : ∀ (n : Nat) (l : List Int), l.Nodup → (∀ x ∈ l, 0 ≤ x ∧ x < (n : Int)) → l.length ≤ n
  | 0, l, _, h => by
    cases l with
    | nil => exact Nat.le_refl _
    | cons x l => have := h x (by simp); omega
  | n + 1, l, nd, h => by
    have := nodup_len n (l.erase (n : Int)) (nd.erase _) fun x hx => by
      have ne := (nd.mem_erase_iff.mp hx).1
      have := h x (List.mem_of_mem_erase hx)
      omega
    by_cases m : (n : Int) ∈ l
    · rw [List.length_erase_of_mem m] at this
      omega
    · rw [List.erase_of_not_mem m] at this
      omega
/-- how many pairs are left -/
theorem joinP_len {ps qs : List (Int × Int)} {a b c : Nat} (h1 : okPs ps = true) (h2 : okPs qs = true) (i1 : InB a b ps) (i2 : InB b c qs) : ps.length + qs.length ≤ (joinP ps qs).length + b := by
  have key : ∀ ps : List (Int × Int), (ps.map (·.2)).Nodup → ∃ l : List Int, (l ++ qs.map (·.1)).Nodup ∧ (∀ x ∈ l, x ∈ ps.map (·.2)) ∧ ps.length = (joinP ps qs).length + l.length := by
    intro ps
    induction ps with
    | nil => exact fun _ => ⟨[], by simpa using asc_nodup (okPs_fst h2), by simp, rfl⟩
    | cons p ps ih =>
      intro n1
      rw [List.map_cons, List.nodup_cons] at n1
      obtain ⟨l, nd, sub, e⟩ := ih n1.2
      rw [joinP_cons]
      cases el : lookP qs p.2 with
      | some k => exact ⟨l, nd, fun x hx => List.mem_cons_of_mem _ (sub x hx), by show ps.length + 1 = ((p.1, k) :: joinP ps qs).length + l.length; rw [List.length_cons]; omega⟩
      | none =>
        refine ⟨p.2 :: l, ?_, fun x hx => ?_, by show ps.length + 1 = (joinP ps qs).length + (l.length + 1); omega⟩
        · rw [List.cons_append, List.nodup_cons]
          refine ⟨fun m => ?_, nd⟩
          rcases List.mem_append.mp m with m | m
          · exact n1.1 (sub _ m)
          · obtain ⟨q, hq, eq⟩ := List.mem_map.mp m
            have := lookP_of (asc_nodup (okPs_fst h2)) (j := p.2) (k := q.2) (by rw [← eq]; exact hq)
            rw [el] at this
            cases this
        · rcases List.mem_cons.mp hx with rfl | hx
          · exact List.mem_cons_self
          · exact List.mem_cons_of_mem _ (sub x hx)
  obtain ⟨l, nd, sub, e⟩ := key ps (okPs_snd h1)
  have := nodup_len b _ nd fun x hx => by
    rcases List.mem_append.mp hx with hx | hx
    · obtain ⟨q, hq, rfl⟩ := List.mem_map.mp (sub x hx)
      exact (i1 q hq).2
    · obtain ⟨q, hq, rfl⟩ := List.mem_map.mp hx
      exact (i2 q hq).1
  rw [List.length_append, List.length_map] at this
  omega
theorem sum_sub {α : Type} [DecidableEq α] (f : α → Int) (h0 : ∀ x, 0 ≤ f x) : ∀ (l m : List α), l.Nodup → (∀ x ∈ l, x ∈ m) → (l.map f).sum ≤ (m.map f).sum
  | [], m, _, _ => by
    induction m with
    | nil => exact Int.le_refl _
    | cons x m ih =>
      have := h0 x
      simp only [List.map_nil, List.sum_nil, List.map_cons, List.sum_cons] at ih ⊢
      have := ih (by simp)
      omega
  | x :: l, m, nd, sub => by
    rw [List.nodup_cons] at nd
    have hx : x ∈ m := sub x (by simp)
    have pm := List.perm_cons_erase hx
    rw [perm_sum (pm.map f), List.map_cons, List.map_cons, List.sum_cons, List.sum_cons]
    have := sum_sub f h0 l (m.erase x) nd.2 fun y hy => by
      have ne : y ≠ x := fun e => nd.1 (e ▸ hy)
      exact (List.mem_erase_of_ne ne).mpr (sub y (List.mem_cons_of_mem _ hy))
    omega
/-- what is counted of both together -/
theorem join_sum (F A B : Int × Int → Int) (hA : ∀ x, 0 ≤ A x) (hB : ∀ x, 0 ≤ B x) {ps qs : List (Int × Int)} (n1 : (ps.map (·.2)).Nodup)
    (h : ∀ i j k, (i, j) ∈ ps → (j, k) ∈ qs → F (i, k) ≤ A (i, j) + B (j, k)) : ((joinP ps qs).map F).sum ≤ (ps.map A).sum + (qs.map B).sum := by
  have key : ∀ ps : List (Int × Int), (ps.map (·.2)).Nodup → (∀ i j k, (i, j) ∈ ps → (j, k) ∈ qs → F (i, k) ≤ A (i, j) + B (j, k)) →
      ∃ l : List (Int × Int), l.Nodup ∧ (∀ x ∈ l, x ∈ qs ∧ x.1 ∈ ps.map (·.2)) ∧ ((joinP ps qs).map F).sum ≤ (ps.map A).sum + (l.map B).sum := by
    intro ps
    induction ps with
    | nil => exact fun _ _ => ⟨[], by simp, by simp, by simp [joinP_nil]⟩
    | cons p ps ih =>
      intro n1 h
      rw [List.map_cons, List.nodup_cons] at n1
      obtain ⟨l, nd, sub, e⟩ := ih n1.2 fun i j k h1 h2 => h i j k (List.mem_cons_of_mem _ h1) h2
      have a0 := hA p
      rw [joinP_cons]
      cases el : lookP qs p.2 with
      | none =>
        refine ⟨l, nd, fun x hx => ⟨(sub x hx).1, List.mem_cons_of_mem _ (sub x hx).2⟩, ?_⟩
        show ((joinP ps qs).map F).sum ≤ _
        rw [List.map_cons, List.sum_cons]
        omega
      | some k =>
        have m := lookP_mem el
        have f := h p.1 p.2 k (by simp) m
        refine ⟨(p.2, k) :: l, ?_, fun x hx => ?_, ?_⟩
        · rw [List.nodup_cons]
          exact ⟨fun z => n1.1 (sub _ z).2, nd⟩
        · rcases List.mem_cons.mp hx with rfl | hx
          · exact ⟨m, List.mem_cons_self⟩
          · exact ⟨(sub x hx).1, List.mem_cons_of_mem _ (sub x hx).2⟩
        · show (((p.1, k) :: joinP ps qs).map F).sum ≤ _
          rw [List.map_cons, List.sum_cons, List.map_cons, List.sum_cons, List.map_cons, List.sum_cons]
          have : A (p.1, p.2) = A p := rfl
          omega
  obtain ⟨l, nd, sub, e⟩ := key ps n1 h
  have := sum_sub B hB l qs nd fun x hx => (sub x hx).1
  omega
theorem join_count (F A B : Int × Int → Bool) {ps qs : List (Int × Int)} (n1 : (ps.map (·.2)).Nodup) (h : ∀ i j k, (i, j) ∈ ps → (j, k) ∈ qs → F (i, k) = true → A (i, j) = true ∨ B (j, k) = true) :
    (((joinP ps qs).filter F).length : Int) ≤ ((ps.filter A).length : Int) + ((qs.filter B).length : Int) := by
  rw [count_sum, count_sum, count_sum]
  refine join_sum _ _ _ (fun x => by split <;> decide) (fun x => by split <;> decide) n1 fun i j k h1 h2 => ?_
  have := h i j k h1 h2
  cases hF : F (i, k) <;> cases hA : A (i, j) <;> cases hB : B (j, k) <;> first | decide | exact absurd (this hF) (by simp [hA, hB])
/-! ## moves, of at most three columns -/
def pairs9 : List (Int × Int) := [(0, 0), (0, 1), (0, 2), (1, 0), (1, 1), (1, 2), (2, 0), (2, 1), (2, 2)]
def all3 : List (List (Int × Int)) := (([] :: pairs9.map fun x => [x]) ++ (pairs9.flatMap fun x => pairs9.map fun y => [x, y]) ++ (pairs9.flatMap fun x => pairs9.flatMap fun y => pairs9.map fun z => [x, y, z])).filter okPs
theorem in9 {q : Int × Int} (h : (0 ≤ q.1 ∧ q.1 < 3) ∧ 0 ≤ q.2 ∧ q.2 < 3) : q ∈ pairs9 := by
  obtain ⟨a, b, rfl⟩ := fin3P h
  revert a b
  decide
theorem in_all3 {cs : List (Int × Int)} (few : cs.length ≤ 3) (ok : okPs cs = true) (inb : ∀ q ∈ cs, (0 ≤ q.1 ∧ q.1 < 3) ∧ 0 ≤ q.2 ∧ q.2 < 3) : cs ∈ all3 := by
  refine List.mem_filter.mpr ⟨?_, ok⟩
  match cs, few, inb with
  | [], _, _ => exact List.mem_append_left _ (List.mem_append_left _ List.mem_cons_self)
  | [x], _, inb => exact List.mem_append_left _ (List.mem_append_left _ (List.mem_cons_of_mem _ (List.mem_map.mpr ⟨x, in9 (inb x (by simp)), rfl⟩)))
  | [x, y], _, inb => exact List.mem_append_left _ (List.mem_append_right _ (List.mem_flatMap.mpr ⟨x, in9 (inb x (by simp)), List.mem_map.mpr ⟨y, in9 (inb y (by simp)), rfl⟩⟩))
  | [x, y, z], _, inb => exact List.mem_append_right _ (List.mem_flatMap.mpr ⟨x, in9 (inb x (by simp)), List.mem_flatMap.mpr ⟨y, in9 (inb y (by simp)), List.mem_map.mpr ⟨z, in9 (inb z (by simp)), rfl⟩⟩⟩)
def movN (cs : List (Int × Int)) : Int := (cs.length : Int) - riseN (cs.map (·.2))
theorem mov_all : (all3.all fun x => all3.all fun y => decide (movN (joinP x y) ≤ movN x + movN y)) = true := by decide +kernel
theorem dup_all : (all3.all fun x => decide (movN (dupP x) = 0)) = true := by decide +kernel
theorem join_mov {cs ds : List (Int × Int)} (h1 : cs ∈ all3) (h2 : ds ∈ all3) : movN (joinP cs ds) ≤ movN cs + movN ds :=
  of_decide_eq_true (List.all_eq_true.mp (List.all_eq_true.mp mov_all _ h1) _ h2)
theorem dup_mov {cs : List (Int × Int)} (h1 : cs ∈ all3) : movN (dupP cs) = 0 := of_decide_eq_true (List.all_eq_true.mp dup_all _ h1)
theorem ne_tri {a b c : V} (h : (!decide (a = c)) = true) : (!decide (a = b)) = true ∨ (!decide (b = c)) = true := by
  by_cases e1 : a = b
  · by_cases e2 : b = c
    · rw [decide_eq_true (e1.trans e2)] at h
      cases h
    · exact .inr (by rw [decide_eq_false e2]; rfl)
  · exact .inl (by rw [decide_eq_false e1]; rfl)
theorem unl_tri {r q u : List V} {cs ds : List (Int × Int)} (n1 : (cs.map (·.2)).Nodup) : unl r u (joinP cs ds) ≤ unl r q cs + unl q u ds :=
  join_count (clNe r u) (clNe r q) (clNe q u) n1 fun i j k _ _ h => ne_tri h
theorem unl_nn (r q : List V) (cs : List (Int × Int)) : 0 ≤ unl r q cs := by unfold unl; omega
theorem unlS_tri {rs qs us : List (List V)} {cs ds ps ts : List (Int × Int)} (n1 : (cs.map (·.2)).Nodup) (n2 : (ps.map (·.2)).Nodup) : unlS rs us (joinP cs ds) (joinP ps ts) ≤ unlS rs qs cs ps + unlS qs us ds ts :=
  join_sum _ _ _ (fun _ => unl_nn _ _ _) (fun _ => unl_nn _ _ _) n2 fun i j k _ _ => unl_tri n1
theorem mul_tri {c x y z : Int} (h0 : 0 ≤ c) (h : x ≤ y + z) : c * x ≤ c * y + c * z := by
  rw [← Int.mul_add]
  exact Int.mul_le_mul_of_nonneg_left h h0
/-- one behind another, both together cost no more -/
theorem cost_tri {b : Bill} {hs ks ls : List Str} {rs qs us : List (List V)} {cs ds ps ts : List (Int × Int)} (ok : BillOk b) (c3 : cs ∈ all3) (d3 : ds ∈ all3) (okc : okPs cs = true) (okd : okPs ds = true) (okp : okPs ps = true) (okt : okPs ts = true)
    (ic : InB hs.length ks.length cs) (id : InB ks.length ls.length ds) (ip : InB rs.length qs.length ps) (it : InB qs.length us.length ts) :
    costN b hs ls rs us (joinP cs ds) (joinP ps ts) ≤ costN b hs ks rs qs cs ps + costN b ks ls qs us ds ts := by
  obtain ⟨ok1, ok2, ok3, ok4, ok5⟩ := ok
  have l1 := joinP_len okc okd ic id
  have l2 := joinP_len okp okt ip it
  have a1 := mul_tri (c := b.column) (x := (hs.length : Int) + (ls.length : Int) - 2 * ((joinP cs ds).length : Int)) (y := (hs.length : Int) + (ks.length : Int) - 2 * (cs.length : Int)) (z := (ks.length : Int) + (ls.length : Int) - 2 * (ds.length : Int)) (by omega) (by omega)
  have a2 := mul_tri (c := b.row) (x := (rs.length : Int) + (us.length : Int) - 2 * ((joinP ps ts).length : Int)) (y := (rs.length : Int) + (qs.length : Int) - 2 * (ps.length : Int)) (z := (qs.length : Int) + (us.length : Int) - 2 * (ts.length : Int)) (by omega) (by omega)
  have a3 := mul_tri (c := b.name) (by omega) (join_count (nmNe hs ls) (nmNe hs ks) (nmNe ks ls) (ps := cs) (qs := ds) (okPs_snd okc) fun i j k _ _ h => ne_tri h)
  have a4 := mul_tri (c := b.move) (by omega) (join_mov c3 d3)
  have a5 := mul_tri (c := b.cell) (by omega) (unlS_tri (rs := rs) (qs := qs) (us := us) (cs := cs) (ds := ds) (ps := ps) (ts := ts) (okPs_snd okc) (okPs_snd okp))
  unfold movN at a4
  unfold costN colN
  omega
/-- there and back -/
theorem join_back {ps ps' : List (Int × Int)} (ok : okPs ps = true) (pm : ps'.Perm (ps.map swp)) : joinP ps ps' = dupP ps := by
  have nd : (ps'.map (·.1)).Nodup := by
    have := pm.map (·.1)
    rw [List.map_map] at this
    exact this.nodup_iff.mpr (okPs_snd ok)
  have key : ∀ l : List (Int × Int), (∀ x ∈ l, x ∈ ps) → joinP l ps' = dupP l := by
    intro l
    induction l with
    | nil => exact fun _ => rfl
    | cons p l ih =>
      intro h
      have e := lookP_of nd (j := p.2) (k := p.1) (pm.mem_iff.mpr (List.mem_map.mpr ⟨p, h p (by simp), rfl⟩))
      rw [joinP_cons, e, ih fun x hx => h x (List.mem_cons_of_mem _ hx)]
      rfl
  exact key ps fun _ h => h
theorem filter_dup (F : Int × Int → Bool) (h : ∀ i, F (i, i) = false) (ps : List (Int × Int)) : (dupP ps).filter F = [] := by
  unfold dupP
  rw [List.filter_map, List.map_eq_nil_iff, List.filter_eq_nil_iff]
  exact fun x _ => by show ¬ F (x.1, x.1) = true; rw [h]; simp
theorem unl_dup (r : List V) (cs : List (Int × Int)) : unl r r (dupP cs) = 0 := by
  unfold unl
  rw [filter_dup (clNe r r) fun i => by unfold clNe; simp]
  rfl
theorem unlS_dup (rs : List (List V)) (cs ps : List (Int × Int)) : unlS rs rs (dupP cs) (dupP ps) = 0 := by
  unfold unlS
  induction ps with
  | nil => rfl
  | cons p ps ih =>
    have e : dupP (p :: ps) = (p.1, p.1) :: dupP ps := rfl
    rw [e, List.map_cons, List.sum_cons, ih, unl_dup]
    rfl
theorem dupP_len (ps : List (Int × Int)) : (dupP ps).length = ps.length := by unfold dupP; rw [List.length_map]
theorem cost_home {b : Bill} {hs : List Str} {rs : List (List V)} {cs ps : List (Int × Int)} (c3 : cs ∈ all3) :
    costN b hs hs rs rs (dupP cs) (dupP ps) = 2 * (b.column * ((hs.length : Int) - ((dupP cs).length : Int)) + b.row * ((rs.length : Int) - ((dupP ps).length : Int))) := by
  have m := dup_mov c3
  unfold movN at m
  unfold costN colN
  rw [m, unlS_dup, filter_dup (nmNe hs hs) (fun i => by unfold nmNe; simp)]
  have e1 : b.column * ((hs.length : Int) + (hs.length : Int) - 2 * ((dupP cs).length : Int)) = 2 * (b.column * ((hs.length : Int) - ((dupP cs).length : Int))) := by
    rw [show (hs.length : Int) + (hs.length : Int) - 2 * ((dupP cs).length : Int) = 2 * ((hs.length : Int) - ((dupP cs).length : Int)) by omega, Int.mul_left_comm]
  have e2 : b.row * ((rs.length : Int) + (rs.length : Int) - 2 * ((dupP ps).length : Int)) = 2 * (b.row * ((rs.length : Int) - ((dupP ps).length : Int))) := by
    rw [show (rs.length : Int) + (rs.length : Int) - 2 * ((dupP ps).length : Int) = 2 * ((rs.length : Int) - ((dupP ps).length : Int)) by omega, Int.mul_left_comm]
  rw [e1, e2]
  simp only [List.length_nil, Int.natCast_zero, Int.mul_zero]
  omega
end Xby

set_option Elab.async false
set_option linter.all false
set_option maxRecDepth 100000
set_option maxHeartbeats 4000000
/-! # dicts of pairs; calls by keywords alone; conditions and costs in one law -/
namespace Xby
open PySem PySem.Spec PyProof.Rows L2
def rDictP (K : PySem.W.Frag) : List V → Hp → VK → Prop := fun xs H Q => ∃ (a : Addr) (ps : List Addr) (kvs : List (Key × V)), xs = [.ref a] ∧ SqL K H a (ps.map V.ref) ∧ Paired (fun p kv => SqT K H p [kV kv.1, kv.2]) ps kvs ∧ ∀ p, H p = none → Q (.ref p) (upd H p (.dK (mergeK [] kvs)))
theorem call_dictPK {X : Cx} (K : PySem.W.Frag) (hK : X.K = K) (hc : X.calm = true) : CallR X (.type "dict") (rDictP K) := by
  subst hK
  exact call_dictP hc
theorem hu1 {A : Around} {k : Nat} (hr : Room k A) : A.units + 1 < cLine := by have := hu65 hr; omega
/-- pairs as what a dict of them holds -/
def kvP (qs : List (Int × Int)) : List (Key × V) := qs.map fun q => (.inl q.1, .int q.2)
theorem valV_kvP (qs : List (Int × Int)) (j : Int) : valV (kvP qs) (.inl j) = (lookP qs j).map V.int := by
  induction qs with
  | nil => rfl
  | cons q qs ih =>
    show valV ((Sum.inl q.1, V.int q.2) :: kvP qs) (.inl j) = _
    unfold lookP
    rw [List.find?_cons]
    by_cases e : q.1 = j
    · rw [valV_pos (by rw [e]), decide_eq_true e]
      rfl
    · rw [valV_neg (fun z => e (Sum.inl.inj z)), decide_eq_false e]
      exact ih
theorem merge_go : ∀ (qs : List (Int × Int)) (acc : List (Key × V)), (qs.map (·.1)).Nodup → (∀ q ∈ qs, ¬ Sum.inl q.1 ∈ acc.map (·.1)) → mergeK acc (kvP qs) = acc ++ kvP qs
  | [], acc, _, _ => (List.append_nil acc).symm
  | q :: qs, acc, nd, h => by
    rw [List.map_cons, List.nodup_cons] at nd
    have e : valV acc (Sum.inl q.1) = none := by
      cases e : valV acc (Sum.inl q.1) with
      | none => rfl
      | some v => exact absurd (valV_in e) (h q (by simp))
    show mergeK (putK acc (Sum.inl q.1) (V.int q.2)) (kvP qs) = _
    rw [putK_new _ e, merge_go qs _ nd.2 fun r hr m => ?_]
    · rw [List.append_assoc]
      rfl
    · rw [List.map_append] at m
      rcases List.mem_append.mp m with m | m
      · exact h r (List.mem_cons_of_mem _ hr) m
      · have : r.1 = q.1 := Sum.inl.inj (List.mem_singleton.mp m)
        exact nd.1 (List.mem_map.mpr ⟨r, hr, this⟩)
theorem merge_kvP {qs : List (Int × Int)} (nd : (qs.map (·.1)).Nodup) : mergeK [] (kvP qs) = kvP qs := merge_go qs [] nd fun _ _ m => by simp at m
theorem prs_ref {K : PySem.W.Frag} {H : Hp} {xs : List V} {ps : List (Int × Int)} (h : Prs K H xs ps) : ∃ as : List Addr, xs = as.map V.ref := by
  induction h with
  | nil => exact ⟨[], rfl⟩
  | @cons a i j vs l e _ ih =>
    obtain ⟨as, e1⟩ := ih
    exact ⟨a :: as, by rw [e1]; rfl⟩
theorem prs_kv {K : PySem.W.Frag} {H : Hp} : ∀ {as : List Addr} {ps : List (Int × Int)}, Prs K H (as.map V.ref) ps → Paired (fun p kv => SqT K H p [kV kv.1, kv.2]) as (kvP ps)
  | [], _, h => by
    cases h
    exact .nil
  | a :: as, _, h => by
    cases h with
    | cons e t => exact .cons e (prs_kv t)

structure TxtAC (K : PySem.W.Frag) (mg : Str → Option Value) extends TxtA K mg, TxtC K mg
section
variable {X : Cx} {CX : CXT} {k : Nat} {f : Addr} {fd : FuncData} {ps ks : List Str} {sp : Sp} {E : XK} {x : Str} {p pos : Pos} {kws : List Keyword} {tk : TA}
  {g : List Value → List Value → List Value} {gV : List V → List V → List V}
/-- a call by keywords alone -/
theorem pe_callK0 (F : FnOk X.prog X.w X.K X.mg X.base CX k f fd ps sp) (hr : Room k X.A) (hg : Gl X x) (hm : X.mg x = some (.ref f)) (hk : PySem.W.keepIn X.K (.ref f) = true)
    (hb : KBn X.K fd ps 0 ks g gV) (hx : Passes CX X E) (ht : PK X kws tk)
    (hsome : ((backToKw pos (keywordEach kws X.env)).all fun x => x.1.isSome) = true := by rfl) (hks : (backToKw pos (keywordEach kws X.env)).filterMap (fun x => x.1) = ks := by rfl) (hdb : (x == ("__debug__" : Str)) = false := by decide)
    (hpl : (((backTo pos (starEach [] X.env)).any fun x => x.1) || (backToKw pos (keywordEach kws X.env)).any fun x => x.1.isNone) = false := by rfl) :
    PE X (.Call (.Name x p) [] kws pos) (fun σ H Q => tk σ H fun zs H1 => zs.length = ks.length ∧ sp (gV [] zs) H1 Q E) := by
  constructor
  intro pins s σ H Q I h
  refine wpAny_Call_Name_kw (ld_glob I hg hm ?_ hdb)
  refine PySem.W.callWith_KW0 (h₀ := X.base) I.ok.mod.kin hk hsome ?_ hpl
  refine thn (ht.run pos pins s σ H _ I h) ?_
  rintro us s1 ⟨zs, H1, I1, r, lz, q⟩
  refine ⟨I1.kIn, ?_⟩
  have rv : Vals (gV [] zs) (g [] us) := hb.rel .nil r
  have bn := hb.to s1 [] us I1.kIn rfl (by rw [← r.length]; exact lz)
  rw [hks]
  refine wpAny_call (codeAny_mono (F.run X.A X.stack s1 H1 ⟨[], ks.zip us⟩ (g [] us) (gV [] zs) Q E hr I1.env0 bn rv q) fun rr s' hq => ?_)
  cases rr with
  | error e => exact hx pins σ H1 s1 e s' I1 hq
  | ok fl =>
    cases fl with
    | ret u => exact I1.after hq
    | next => exact (show False from hq).elim
    | brk => exact (show False from hq).elim
    | cont => exact (show False from hq).elim
end
end Xby

set_option Elab.async false
set_option linter.all false
set_option maxRecDepth 100000
set_option maxHeartbeats 1000000
/-! # zip of two sequences of whatever kinds: lists or tuples -/
namespace Xby
open PySem PySem.Spec PyProof.Rows L2
/-- an iterator `it` over what lies at `l`: what asking it for the next item does -/
structure Fount (P : Program) (w : World) (it l : Addr) (xs : Array Value) (S : Heap → Nat → Prop) (N : Heap → Prop) : Prop where
  give : ∀ {A : Around} {E : Value → Shared → Prop} {s : Shared} {i : Nat} {x : Value} {Q : Value → Shared → Prop}, S s.heap i → N s.heap → xs[i]? = some x →
    (∀ k : Heap, S k (i + 1) → Heap.SameBut it s.heap k → Q x { s with heap := k }) → wpAny (model P w) A (Builtin.SmallTypes.nextOf (.ref it)) Q E s
  dry : ∀ {A : Around} {E : Value → Shared → Prop} {s : Shared} {i : Nat} {Q : Value → Shared → Prop}, A.handled = none → S s.heap i → N s.heap → xs[i]? = none →
    (∀ (k : Heap) (e : Addr), Heap.ExtBut it s.heap k → (∃ o, k.get? e = some o ∧ o.cls = .type "StopIteration") → E (.ref e) { s with heap := k }) → wpAny (model P w) A (Builtin.SmallTypes.nextOf (.ref it)) Q E s
  stayS : ∀ {c : Addr} {h k : Heap} {i : Nat}, S h i → Heap.ExtBut c h k → it ≠ c → S k i
  stayN : ∀ {c : Addr} {h k : Heap}, N h → Heap.ExtBut c h k → l ≠ c → N k
  moved : ∀ {h k : Heap} {i : Nat}, S h i → (∀ o, h.get? it = some o → k.get? it = some o) → S k i
  seen : ∀ {h : Heap} {i : Nat}, S h i → ∃ o, h.get? it = some o ∧ ∀ v, o.data ≠ .cell v
section
variable {P : Program} {w : World} {it l : Addr} {xs ys : Array Value}
theorem fountT : Fount P w it l xs (fun h i => h.IsTupleIter it l i) (fun h => h.IsTuple l xs) where
  give a b c d := RZ.nextOf_tuple_item a b c d
  dry a b c d e := RZ.nextOf_tuple_end a b c d e
  stayS a b c := a.extBut b c
  stayN a b c := a.extBut b c
  moved a b := a.at b
  seen := fun ⟨o, e, _, d⟩ => ⟨o, e, fun v z => by rw [d] at z; cases z⟩
theorem fountL : Fount P w it l xs (fun h i => h.IsListIter it l i) (fun h => h.IsList l xs) where
  give a b c d := wpAny_nextOf_list_item a b c d
  dry a b c d e := wpAny_nextOf_list_end a b c d e
  stayS a b c := a.extBut b c
  stayN a b c := a.extBut b c
  moved a b := a.at b
  seen := fun ⟨o, e, _, d⟩ => ⟨o, e, fun v z => by rw [d] at z; cases z⟩
variable {A : Around} {E : Value → Shared → Prop} {s : Shared} {q m g u v a b : Addr} {S1 S2 : Heap → Nat → Prop} {N1 N2 : Heap → Prop} {i j : Nat} {x y c d : Value}
theorem zip_gives {Q : Value → Shared → Prop} (F1 : Fount P w u a xs S1 N1) (F2 : Fount P w v b ys S2 N2) (D : ZipApart q m g u v a b) (at_q : IsZip s.heap q m g .none) (at_m : IsPair s.heap m (.ref u) (.ref v)) (at_g : IsPair s.heap g c d)
    (st1 : S1 s.heap i) (st2 : S2 s.heap j) (sq1 : N1 s.heap) (sq2 : N2 s.heap) (get1 : xs[i]? = some x) (get2 : ys[j]? = some y)
    (goal : ∀ k : Heap, IsZip k q m g (rawInt s.heap.objs.size) → IsPair k g x y → S1 k (i + 1) → S2 k (j + 1) → IsPair k s.heap.objs.size x y → k.objs.size = s.heap.objs.size + 1 →
      (∀ p o, p ≠ q → p ≠ g → p ≠ u → p ≠ v → s.heap.get? p = some o → k.get? p = some o) → Q (.ref s.heap.objs.size) { s with heap := k }) :
    wpAny (model P w) A (Builtin.«zip.__next__» ⟨[.ref q], []⟩) (fun f t => ∃ r, f = .done (.ret r) ∧ Q r t) E s := by
  show wpAny (model P w) A (field (.ref q) 2 >>= fun _ => _) _ E s
  refine wpAny_bind (wpAny_field at_q rfl (i := 2) (x := .bool false) rfl (?_ : wpAny (model P w) A (field (.ref q) 3 >>= fun _ => _) _ E s))
  refine wpAny_bind (wpAny_field at_q rfl (i := 3) (x := .ref m) rfl (wpAny_bind (wpAny_seqItems at_m rfl ?_)))
  show wpAny (model P w) A (Builtin.SmallTypes.ownedTupleIsFree (.ref q) >>= fun _ => _) _ E s
  unfold Builtin.SmallTypes.ownedTupleIsFree
  refine wpAny_bind (wpAny_bind (wpAny_field at_q rfl (i := 0) (x := .none) rfl (wpAny_pure ?_)))
  simp only [if_true]
  refine wpAny_bind (wpAny_rule (wpAny_bind (wpAny_field at_q rfl (i := 4) (x := .ref g) rfl (wpAny_bind (wpAny_setField_rec at_q (by simp) fun k1 zip1 same1 => ?_)))))
  have zip1 : IsZip k1 q m g .ellipsis := zip1
  refine wpAny_bind ?_
  simp only [List.zipIdx_cons, List.zipIdx_nil, List.forIn_cons, List.forIn_nil]
  refine wpAny_bind (wpAny_bind (wpAny_onRaise (?_ : wpAny (model P w) A (Builtin.SmallTypes.nextOf (.ref u) >>= fun _ => _) _ _ _)))
  refine wpAny_bind (F1.give (F1.stayS st1 same1.extBut D.i1z) (F1.stayN sq1 same1.extBut D.l1z) get1 fun k2 next1 same2 => wpAny_pure ?_)
  have two2 : IsPair k2 g c d := same2.extBut _ _ D.TOi1 (same1.extBut _ _ D.TOz at_g)
  refine wpAny_bind (wpAny_seqItems two2 rfl (wpAny_bind (wpAny_updateSeq_pair two2 fun k3 two3 same3 => ?_)))
  have two3 : IsPair k3 g x d := two3
  refine wpAny_bind (wpAny_letGo (wpAny_pure (wpAny_bind (wpAny_bind (wpAny_onRaise (?_ : wpAny (model P w) A (Builtin.SmallTypes.nextOf (.ref v) >>= fun _ => _) _ _ _))))))
  have st23 := F2.stayS (F2.stayS (F2.stayS st2 same1.extBut D.i2z) same2.extBut D.i12.symm) same3.extBut D.TOi2.symm
  have sq23 := F2.stayN (F2.stayN (F2.stayN sq2 same1.extBut D.l2z) same2.extBut D.l2i1) same3.extBut D.l2TO
  refine wpAny_bind (F2.give st23 sq23 get2 fun k4 next2 same4 => wpAny_pure ?_)
  have two4 : IsPair k4 g x d := same4.extBut _ _ D.TOi2 two3
  refine wpAny_bind (wpAny_seqItems two4 rfl (wpAny_bind (wpAny_updateSeq_pair two4 fun k5 two5 same5 => ?_)))
  have two5 : IsPair k5 g x y := two5
  refine wpAny_bind (wpAny_letGo (wpAny_pure (wpAny_pure (wpAny_bind (wpAny_seqItems two5 rfl (wpAny_bind (wpAny_newTuple ?_)))))))
  have size5 : k5.objs.size = s.heap.objs.size := by rw [same5.1, same4.1, same3.1, same2.1, same1.1]
  have rest5 : ∀ p o, p ≠ q → p ≠ g → p ≠ u → p ≠ v → s.heap.get? p = some o → k5.get? p = some o := fun p o n1 n2 n3 n4 z =>
    same5.extBut p o n2 (same4.extBut p o n4 (same3.extBut p o n2 (same2.extBut p o n3 (same1.extBut p o n1 z))))
  have zip5 : IsZip k5 q m g .ellipsis := same5.extBut q _ D.TOz.symm (same4.extBut q _ D.i2z.symm (same3.extBut q _ D.TOz.symm (same2.extBut q _ D.i1z.symm zip1)))
  have one5 : S1 k5 (i + 1) := F1.stayS (F1.stayS (F1.stayS next1 same3.extBut D.TOi1.symm) same4.extBut D.i12) same5.extBut D.TOi1.symm
  have other5 : S2 k5 (j + 1) := F2.stayS next2 same5.extBut D.TOi2.symm
  have below : q < k5.objs.size := Heap.lt_size zip5
  show wpAny (model P w) A (Builtin.SmallTypes.ownedTupleHandOut (.ref q) (.ref k5.objs.size) >>= fun _ => _) _ _ _
  unfold Builtin.SmallTypes.ownedTupleHandOut
  have zip6 : IsZip (k5.push { cls := .type "tuple", data := .seq #[x, y] }) q m g .ellipsis := Heap.get?_push_of_some _ zip5
  refine wpAny_bind (wpAny_bind (wpAny_setField_rec zip6 (by simp) fun k7 zip7 same7 => ?_))
  have zip7 : IsZip k7 q m g (rawInt k5.objs.size) := zip7
  refine wpAny_setField_rec zip7 (by simp) fun k8 zip8 same8 => ?_
  have zip8 : IsZip k8 q m g (rawInt k5.objs.size) := zip8
  have last : ∀ p o, p ≠ q → k5.get? p = some o → k8.get? p = some o := fun p o n z => same8.extBut p o n (same7.extBut p o n (Heap.get?_push_of_some _ z))
  have made : IsPair k8 k5.objs.size x y := same8.extBut _ _ (Nat.ne_of_gt below) (same7.extBut _ _ (Nat.ne_of_gt below) (Heap.get?_push_size _ rfl))
  have size8 : k8.objs.size = k5.objs.size + 1 := by rw [same8.1, same7.1, Heap.size_push]
  rw [size5] at zip8 made size8
  refine wpAny_pure ⟨.ref k5.objs.size, rfl, ?_⟩
  rw [size5]
  exact goal k8 zip8 (last _ _ D.TOz two5) (F1.moved one5 fun o => last u o D.i1z) (F2.moved other5 fun o => last v o D.i2z) made size8 fun p o n1 n2 n3 n4 z => last p o n1 (rest5 p o n1 n2 n3 n4 z)
theorem zip_dries {Q : PySem.Fin → Shared → Prop} (F1 : Fount P w u a xs S1 N1) (F2 : Fount P w v b ys S2 N2) (calm : A.handled = none) (D : ZipApart q m g u v a b) (at_q : IsZip s.heap q m g .none) (at_m : IsPair s.heap m (.ref u) (.ref v)) (at_g : IsPair s.heap g c d)
    (st1 : S1 s.heap i) (st2 : S2 s.heap j) (sq1 : N1 s.heap) (sq2 : N2 s.heap) (over : xs[i]? = none ∨ ys[j]? = none)
    (goal : ∀ (k : Heap) (e : Addr), (∀ p o, p ≠ q → p ≠ g → p ≠ u → p ≠ v → s.heap.get? p = some o → k.get? p = some o) → (∃ o, k.get? e = some o ∧ o.cls = .type "StopIteration") → E (.ref e) { s with heap := k }) :
    wpAny (model P w) A (Builtin.«zip.__next__» ⟨[.ref q], []⟩) Q E s := by
  show wpAny (model P w) A (field (.ref q) 2 >>= fun _ => _) _ E s
  refine wpAny_bind (wpAny_field at_q rfl (i := 2) (x := .bool false) rfl (?_ : wpAny (model P w) A (field (.ref q) 3 >>= fun _ => _) _ E s))
  refine wpAny_bind (wpAny_field at_q rfl (i := 3) (x := .ref m) rfl (wpAny_bind (wpAny_seqItems at_m rfl ?_)))
  show wpAny (model P w) A (Builtin.SmallTypes.ownedTupleIsFree (.ref q) >>= fun _ => _) _ E s
  unfold Builtin.SmallTypes.ownedTupleIsFree
  refine wpAny_bind (wpAny_bind (wpAny_field at_q rfl (i := 0) (x := .none) rfl (wpAny_pure ?_)))
  simp only [if_true]
  refine wpAny_bind (wpAny_rule (wpAny_bind (wpAny_field at_q rfl (i := 4) (x := .ref g) rfl (wpAny_bind (wpAny_setField_rec at_q (by simp) fun k1 zip1 same1 => ?_)))))
  have zip1 : IsZip k1 q m g .ellipsis := zip1
  refine wpAny_bind ?_
  simp only [List.zipIdx_cons, List.zipIdx_nil, List.forIn_cons, List.forIn_nil]
  refine wpAny_bind (wpAny_bind (wpAny_onRaise (?_ : wpAny (model P w) A (Builtin.SmallTypes.nextOf (.ref u) >>= fun _ => _) _ _ _)))
  have st11 := F1.stayS st1 same1.extBut D.i1z
  have sq11 := F1.stayN sq1 same1.extBut D.l1z
  rcases Option.eq_none_or_eq_some xs[i]? with none1 | ⟨x, get1⟩
  · refine wpAny_bind (F1.dry calm st11 sq11 none1 fun k2 e ext2 stop => ?_)
    obtain ⟨oe, at_e, is_e⟩ := stop
    have zip2 : IsZip k2 q m g .ellipsis := ext2 q _ D.i1z.symm zip1
    have apart : e ≠ q := fun z => by rw [z, zip2] at at_e; cases at_e; simp at is_e
    exact wpAny_setField_rec zip2 (by simp) fun k3 _ same3 => goal k3 e (fun p o n1 _ n3 _ z => same3.extBut p o n1 (ext2 p o n3 (same1.extBut p o n1 z))) ⟨oe, same3.extBut e _ apart at_e, is_e⟩
  · have none2 : ys[j]? = none := over.resolve_left fun z => by rw [get1] at z; cases z
    refine wpAny_bind (F1.give st11 sq11 get1 fun k2 next1 same2 => wpAny_pure ?_)
    have two2 : IsPair k2 g c d := same2.extBut _ _ D.TOi1 (same1.extBut _ _ D.TOz at_g)
    refine wpAny_bind (wpAny_seqItems two2 rfl (wpAny_bind (wpAny_updateSeq_pair two2 fun k3 two3 same3 => ?_)))
    refine wpAny_bind (wpAny_letGo (wpAny_pure (wpAny_bind (wpAny_bind (wpAny_onRaise (?_ : wpAny (model P w) A (Builtin.SmallTypes.nextOf (.ref v) >>= fun _ => _) _ _ _))))))
    have st23 := F2.stayS (F2.stayS (F2.stayS st2 same1.extBut D.i2z) same2.extBut D.i12.symm) same3.extBut D.TOi2.symm
    have sq23 := F2.stayN (F2.stayN (F2.stayN sq2 same1.extBut D.l2z) same2.extBut D.l2i1) same3.extBut D.l2TO
    refine wpAny_bind (F2.dry calm st23 sq23 none2 fun k4 e ext4 stop => ?_)
    obtain ⟨oe, at_e, is_e⟩ := stop
    have zip4 : IsZip k4 q m g .ellipsis := ext4 q _ D.i2z.symm (same3.extBut q _ D.TOz.symm (same2.extBut q _ D.i1z.symm zip1))
    have apart : e ≠ q := fun z => by rw [z, zip4] at at_e; cases at_e; simp at is_e
    exact wpAny_setField_rec zip4 (by simp) fun k5 _ same5 => goal k5 e (fun p o n1 n2 n3 n4 z => same5.extBut p o n1 (ext4 p o n4 (same3.extBut p o n2 (same2.extBut p o n3 (same1.extBut p o n1 z))))) ⟨oe, same5.extBut e _ apart at_e, is_e⟩
end
end Xby

set_option Elab.async false
set_option linter.all false
set_option maxRecDepth 100000
set_option maxHeartbeats 2000000
/-! # for x, y in zip(p, q): p and q lists or tuples, each of its kind -/
namespace Xby
open PySem PySem.Spec PyProof.Rows L2
/-- the iterator that a tuple (true) or a list (false) gives -/
abbrev itCls : Bool → String
  | true => "tuple_iterator"
  | false => "list_iterator"
abbrev IsIt (t : Bool) (h : Heap) (p l : Addr) (i : Nat) : Prop := ∃ o, h.get? p = some o ∧ o.cls = .type (itCls t) ∧ o.data = .fields #[.ref l, .int (i : Int) 0]
def IsSq : Bool → Heap → Addr → Array Value → Prop
  | true, h, l, xs => h.IsTuple l xs
  | false, h, l, xs => h.IsList l xs
def SqB (K : PySem.W.Frag) : Bool → Hp → Addr → List V → Prop
  | true, H, a, xs => SqT K H a xs
  | false, H, a, xs => SqL K H a xs
theorem fountB {P : Program} {w : World} {it l : Addr} {xs : Array Value} : ∀ t : Bool, Fount P w it l xs (fun h i => IsIt t h it l i) (fun h => IsSq t h l xs)
  | true => fountT
  | false => fountL
section
variable {P : Program} {w : World} {A : Around} {E : Value → Shared → Prop} {s : Shared} {q m g u v a b : Addr} {xs ys : Array Value} {t1 t2 : Bool} {i j : Nat} {x y c d : Value}
theorem zip_next {Q : Option Value → Shared → Prop} (D : ZipApart q m g u v a b) (at_q : IsZip s.heap q m g .none) (at_m : IsPair s.heap m (.ref u) (.ref v)) (at_g : IsPair s.heap g c d)
    (st1 : IsIt t1 s.heap u a i) (st2 : IsIt t2 s.heap v b j) (sq1 : IsSq t1 s.heap a xs) (sq2 : IsSq t2 s.heap b ys) (get1 : xs[i]? = some x) (get2 : ys[j]? = some y)
    (goal : ∀ k : Heap, IsZip k q m g (rawInt s.heap.objs.size) → IsPair k g x y → IsIt t1 k u a (i + 1) → IsIt t2 k v b (j + 1) → IsPair k s.heap.objs.size x y → k.objs.size = s.heap.objs.size + 1 →
      (∀ p o, p ≠ q → p ≠ g → p ≠ u → p ≠ v → s.heap.get? p = some o → k.get? p = some o) → Q (some (.ref s.heap.objs.size)) { s with heap := k }) :
    wpAny (model P w) A (pyNext (.ref q)) Q E s := by
  have kind : s.TypeIs (.ref q) "zip" := ⟨_, at_q, rfl⟩
  unfold pyNext
  refine wpAny_bind (wpAny_attempt (wpAny_callSpecial?_slot (name := Str.ofString "__next__") kind F.slot_zip_next (wpAny_call_entry F.slot_zip_next kind F.entry_zip_next ?_ (F.args_zip_next_1 _))))
  exact zip_gives (fountB t1) (fountB t2) D at_q at_m at_g st1 st2 sq1 sq2 get1 get2 fun k e1 e2 e3 e4 e5 e6 e7 => wpAny_pure (goal k e1 e2 e3 e4 e5 e6 e7)
theorem zip_end {Q : Option Value → Shared → Prop} (calm : A.handled = none) (D : ZipApart q m g u v a b) (at_q : IsZip s.heap q m g .none) (at_m : IsPair s.heap m (.ref u) (.ref v)) (at_g : IsPair s.heap g c d)
    (st1 : IsIt t1 s.heap u a i) (st2 : IsIt t2 s.heap v b j) (sq1 : IsSq t1 s.heap a xs) (sq2 : IsSq t2 s.heap b ys) (over : xs[i]? = none ∨ ys[j]? = none)
    (goal : ∀ k : Heap, (∀ p o, p ≠ q → p ≠ g → p ≠ u → p ≠ v → s.heap.get? p = some o → k.get? p = some o) → Q none { s with heap := k }) :
    wpAny (model P w) A (pyNext (.ref q)) Q E s := by
  have kind : s.TypeIs (.ref q) "zip" := ⟨_, at_q, rfl⟩
  unfold pyNext
  refine wpAny_bind (wpAny_attempt (wpAny_callSpecial?_slot (name := Str.ofString "__next__") kind F.slot_zip_next (wpAny_call_entry F.slot_zip_next kind F.entry_zip_next ?_ (F.args_zip_next_1 _))))
  refine zip_dries (fountB t1) (fountB t2) calm D at_q at_m at_g st1 st2 sq1 sq2 over fun k e rest stop => ?_
  obtain ⟨oe, at_e, is_e⟩ := stop
  exact wpAny_bind (wpAny_isInstance (T := "StopIteration") (b := true) ⟨oe, at_e, is_e⟩ isSubtype_stop (wpAny_pure (goal k rest)))
end
/-! ## the zip object, made -/
abbrev itOb (t : Bool) (l : Addr) : Obj := { cls := .type (itCls t), data := .fields #[.ref l, .int 0 0] }
abbrev zm1 (t1 : Bool) (h : Heap) (a : Addr) : Heap := h.push (itOb t1 a)
abbrev zm2 (t1 t2 : Bool) (h : Heap) (a b : Addr) : Heap := (zm1 t1 h a).push (itOb t2 b)
abbrev zm3 (t1 t2 : Bool) (h : Heap) (a b : Addr) : Heap := (zm2 t1 t2 h a b).push { cls := .type "tuple", data := .seq #[.ref h.objs.size, .ref (zm1 t1 h a).objs.size] }
abbrev zm4 (t1 t2 : Bool) (h : Heap) (a b : Addr) : Heap := (zm3 t1 t2 h a b).push { cls := .type "tuple", data := .seq #[.none, .none] }
abbrev zm5 (t1 t2 : Bool) (h : Heap) (a b : Addr) : Heap := (zm4 t1 t2 h a b).push { cls := .type "zip", data := .fields #[.none, .bool false, .bool false, .ref (zm2 t1 t2 h a b).objs.size, .ref (zm3 t1 t2 h a b).objs.size] }
def zipSpec (t1 t2 : Bool) (a b : Addr) (xs ys : Array Value) : PySem.Spec := fun _ R s => IsSq t1 s.heap a xs ∧ IsSq t2 s.heap b ys ∧ R (.ok (.ret (.ref (zm4 t1 t2 s.heap a b).objs.size))) { s with heap := zm5 t1 t2 s.heap a b }
theorem meets_TL (a b : Addr) (xs ys : Array Value) : Meets (Builtin.«zip.__new__» ⟨[.type "zip", .ref a, .ref b], []⟩) (zipSpec true false a b xs ys) :=
  .of_wp fun P w A R s h => by
    obtain ⟨hp, gs, dr, tk, os⟩ := s
    obtain ⟨f1, f2, f3⟩ := h
    have below := sub_zip
    have g1 : Heap.IsTuple (Shared.heap ⟨hp, gs, dr, tk, os⟩) a xs := f1
    have g2 : Heap.IsList (Shared.heap ⟨hp.push (itOb true a), gs, dr, tk, os⟩) b ys := Heap.IsList.push f2 _
    wp_walk using wpAny_pyIter_tuple g1, wpAny_pyIter_list g2
    exact ⟨_, rfl, f3⟩
theorem meets_LT (a b : Addr) (xs ys : Array Value) : Meets (Builtin.«zip.__new__» ⟨[.type "zip", .ref a, .ref b], []⟩) (zipSpec false true a b xs ys) :=
  .of_wp fun P w A R s h => by
    obtain ⟨hp, gs, dr, tk, os⟩ := s
    obtain ⟨f1, f2, f3⟩ := h
    have below := sub_zip
    have g1 : Heap.IsList (Shared.heap ⟨hp, gs, dr, tk, os⟩) a xs := f1
    have g2 : Heap.IsTuple (Shared.heap ⟨hp.push (itOb false a), gs, dr, tk, os⟩) b ys := Heap.IsTuple.push f2 _
    wp_walk using wpAny_pyIter_list g1, wpAny_pyIter_tuple g2
    exact ⟨_, rfl, f3⟩
theorem zip_made {P : Program} {w : World} {A : Around} {E : Value → Shared → Prop} {s : Shared} {t1 t2 : Bool} {a b : Addr} {xs ys : Array Value} {Q : Value → Shared → Prop}
    (M : Meets (Builtin.«zip.__new__» ⟨[.type "zip", .ref a, .ref b], []⟩) (zipSpec t1 t2 a b xs ys)) (sq1 : IsSq t1 s.heap a xs) (sq2 : IsSq t2 s.heap b ys)
    (goal : ∀ (k : Heap) (n : Nat), n = s.heap.objs.size → IsZip k (n + 4) (n + 2) (n + 3) .none → IsPair k (n + 2) (.ref n) (.ref (n + 1)) → IsPair k (n + 3) .none .none → IsIt t1 k n a 0 → IsIt t2 k (n + 1) b 0 →
      (∀ p o, s.heap.get? p = some o → k.get? p = some o) → Q (.ref (n + 4)) { s with heap := k }) :
    wpAny (model P w) A (call (.type "zip") [.ref a, .ref b]) Q E s := by
  refine callType_new F.called_zip (by decide) (F.typeCall_zip_2 _ _) (F.newCall_zip_2 _ _) (fun z => F.args_object_init_3 z _ _) F.entry_zip_new M ⟨sq1, sq2, ?_⟩
  have n1 : (zm1 t1 s.heap a).objs.size = s.heap.objs.size + 1 := Heap.size_push ..
  have n2 : (zm2 t1 t2 s.heap a b).objs.size = s.heap.objs.size + 2 := (Heap.size_push ..).trans (congrArg (· + 1) n1)
  have n3 : (zm3 t1 t2 s.heap a b).objs.size = s.heap.objs.size + 3 := (Heap.size_push ..).trans (congrArg (· + 1) n2)
  have n4 : (zm4 t1 t2 s.heap a b).objs.size = s.heap.objs.size + 4 := (Heap.size_push ..).trans (congrArg (· + 1) n3)
  have all : ∀ p o, s.heap.get? p = some o → (zm5 t1 t2 s.heap a b).get? p = some o := fun p o z => Heap.get?_push_of_some _ (Heap.get?_push_of_some _ (Heap.get?_push_of_some _ (Heap.get?_push_of_some _ (Heap.get?_push_of_some _ z))))
  have at0 : (zm5 t1 t2 s.heap a b).get? s.heap.objs.size = some (itOb t1 a) := Heap.get?_push_of_some _ (Heap.get?_push_of_some _ (Heap.get?_push_of_some _ (Heap.get?_push_of_some _ (Heap.get?_push_size _ rfl))))
  have at1 : (zm5 t1 t2 s.heap a b).get? (zm1 t1 s.heap a).objs.size = some (itOb t2 b) := Heap.get?_push_of_some _ (Heap.get?_push_of_some _ (Heap.get?_push_of_some _ (Heap.get?_push_size _ rfl)))
  have at2 : (zm5 t1 t2 s.heap a b).get? (zm2 t1 t2 s.heap a b).objs.size = some { cls := .type "tuple", data := .seq #[.ref s.heap.objs.size, .ref (zm1 t1 s.heap a).objs.size] } := Heap.get?_push_of_some _ (Heap.get?_push_of_some _ (Heap.get?_push_size _ rfl))
  have at3 : (zm5 t1 t2 s.heap a b).get? (zm3 t1 t2 s.heap a b).objs.size = some { cls := .type "tuple", data := .seq #[.none, .none] } := Heap.get?_push_of_some _ (Heap.get?_push_size _ rfl)
  have at4 : (zm5 t1 t2 s.heap a b).get? (zm4 t1 t2 s.heap a b).objs.size = some { cls := .type "zip", data := .fields #[.none, .bool false, .bool false, .ref (zm2 t1 t2 s.heap a b).objs.size, .ref (zm3 t1 t2 s.heap a b).objs.size] } := Heap.get?_push_size _ rfl
  rw [n4, n2, n3] at at4
  rw [n2, n1] at at2
  rw [n3] at at3
  rw [n1] at at1
  show _ ∧ _
  rw [n4]
  exact ⟨⟨_, at4, rfl⟩, goal _ s.heap.objs.size rfl at4 at2 at3 ⟨_, at0, rfl, rfl⟩ ⟨_, at1, rfl, rfl⟩ all⟩
end Xby

set_option Elab.async false
set_option linter.all false
set_option maxRecDepth 100000
set_option maxHeartbeats 2000000
/-! # the loop over zip of a tuple and a list, or of a list and a tuple -/
namespace Xby
open PySem PySem.Spec PyProof.Rows L2
theorem seqB_of {X : Cx} {pins : List (Addr × Obj)} {σ : L2.St} {H : Hp} {s : Shared} {a : Addr} {xs : List V} (I : Inv X pins σ H s) : ∀ {t : Bool}, SqB X.K t H a xs → ∃ its, Vals xs its ∧ IsSq t s.heap a its.toArray ∧ a < s.heap.objs.size
  | true, h => by
    obtain ⟨its, r, p, _⟩ := I.tuple h
    obtain ⟨o, e, _⟩ := id p
    exact ⟨its, r, p, Heap.lt_size e⟩
  | false, h => by
    obtain ⟨its, r, p, _⟩ := I.list h
    exact ⟨its, r, p.isList, p.lt⟩
theorem seqB_one {X : Cx} {pins : List (Addr × Obj)} {σ : L2.St} {H : Hp} {s : Shared} {a : Addr} {xs ys : List V} (I : Inv X pins σ H s) : ∀ {t : Bool}, SqB X.K t H a xs → SqB X.K t H a ys → xs = ys
  | true, h, g => I.tuple_inj h g
  | false, h, g => I.list_inj h g
/-- both as they stand at each turn; their items, two and two, in new pairs -/
def ItzB (K : PySem.W.Frag) (t1 t2 : Bool) (a b : Addr) : It where
  go i H := ∃ (xs ys : List V) (x y : V), SqB K t1 H a xs ∧ SqB K t2 H b ys ∧ xs[i]? = some x ∧ ys[i]? = some y
  yld i H v H' := ∃ p x y, v = .ref p ∧ H p = none ∧ H' = upd H p (.tup [x, y]) ∧ (∀ xs, SqB K t1 H a xs → xs[i]? = some x) ∧ ∀ ys, SqB K t2 H b ys → ys[i]? = some y
  stop i H := ∃ xs ys : List V, SqB K t1 H a xs ∧ SqB K t2 H b ys ∧ (xs.length ≤ i ∨ ys.length ≤ i)
def zipSt (t1 t2 : Bool) (q m g u v a b : Addr) (i : Nat) (h : Heap) : Prop := IsZip h q m g .none ∧ IsPair h m (.ref u) (.ref v) ∧ (∃ x y, IsPair h g x y) ∧ IsIt t1 h u a i ∧ IsIt t2 h v b i
theorem zipSt.at_ {t1 t2 : Bool} {q m g u v a b : Addr} {i : Nat} {h : Heap} (z : zipSt t1 t2 q m g u v a b i h) : ∀ p ∈ [q, m, g, u, v], ∃ o, h.get? p = some o ∧ ∀ w, o.data ≠ .cell w := by
  obtain ⟨z1, z2, ⟨x, y, z3⟩, z4, z5⟩ := z
  intro p hp
  simp only [List.mem_cons, List.not_mem_nil, or_false] at hp
  rcases hp with rfl | rfl | rfl | rfl | rfl
  · exact ⟨_, z1, fun w e => by cases e⟩
  · exact ⟨_, z2, fun w e => by cases e⟩
  · exact ⟨_, z3, fun w e => by cases e⟩
  · obtain ⟨o, e, _, d⟩ := z4
    exact ⟨o, e, fun w z => by rw [d] at z; cases z⟩
  · obtain ⟨o, e, _, d⟩ := z5
    exact ⟨o, e, fun w z => by rw [d] at z; cases z⟩
theorem turn_zipB {P : Program} {w : World} {K : PySem.W.Frag} {elts : List Expr} {n : Nat} {ps : Pos} {q m g u v a b : Addr} {t1 t2 : Bool} (D : ZipApart q m g u v a b) :
    Turn P w K (.Tuple elts n ps) (ItzB K t1 t2 a b) [q, m, g, u, v] q (zipSt t1 t2 q m g u v a b) where
  mem := List.mem_cons_self
  obj i h z := z.at_
  keep i h k z same := by
    obtain ⟨z1, z2, ⟨x, y, z3⟩, ⟨o4, z4, e4⟩, ⟨o5, z5, e5⟩⟩ := z
    exact ⟨same q (by simp) _ z1, same m (by simp) _ z2, ⟨x, y, same g (by simp) _ z3⟩, ⟨o4, same u (by simp) _ z4, e4⟩, ⟨o5, same v (by simp) _ z5, e5⟩⟩
  self A i s Q E z h := wpAny_pyIter_zip z.1 h
  item X eP ew eK calm i pins s σ H E I free z go := by
    subst eP ew eK
    have seen := z.at_
    obtain ⟨z1, z2, ⟨x0, y0, z3⟩, z4, z5⟩ := z
    obtain ⟨xs, ys, x, y, sx, sy, gx, gy⟩ := go
    obtain ⟨its, vx, px, _⟩ := seqB_of I sx
    obtain ⟨jts, vy, py, _⟩ := seqB_of I sy
    obtain ⟨ux, eu, rx⟩ := vx.get gx
    obtain ⟨uy, ev, ry⟩ := vy.get gy
    have qlt : q < s.heap.objs.size := Heap.lt_size z1
    refine zip_next D z1 z2 z3 z4 z5 px py (x := ux) (y := uy) (by simpa using eu) (by simpa using ev) fun k k1 k2 k3 k4 k5 _ rest => ⟨_, rfl, ?_⟩
    refine wpAny_letOwnedTupleGo_zip (s := { s with heap := k }) k1 fun k' k1' but => ?_
    have made : k'.get? s.heap.objs.size = some { cls := .type "tuple", data := .seq #[ux, uy] } := (but.2 _ (Nat.ne_of_gt qlt)).trans k5
    have fresh : ObjOk X.prog X.w (upd H s.heap.objs.size (.tup [x, y])) k' s.heap.objs.size (.tup [x, y]) := ⟨by show 2 ≤ sizeLine; decide, [ux, uy], .cons rx (.cons ry .nil), ⟨_, made, rfl, _, rfl⟩⟩
    have I' : Inv X pins σ (upd H s.heap.objs.size (.tup [x, y])) { s with heap := k' } := I.turnedNew (t' := s.toks) (ch := [q, m, g, u, v]) (fun p o out e => by
      simp only [List.mem_cons, List.not_mem_nil, or_false, not_or] at out
      exact (but.2 p out.1).trans (rest p o out.1 out.2.2.1 out.2.2.2.1 out.2.2.2.2 e)) free (Nat.le_refl _) fresh
    refine ⟨.ref s.heap.objs.size, _, I', rfl, ⟨_, x, y, rfl, I.hok.fresh (Nat.le_refl _), rfl, fun l h => by rw [seqB_one I h sx]; exact gx, fun l h => by rw [seqB_one I h sy]; exact gy⟩, ⟨k1', ?_, ⟨ux, uy, ?_⟩, ?_, ?_⟩, fun p hp => ?_⟩
    · exact (but.2 m D.TIz).trans (rest m _ D.TIz D.TITO D.TIi1 D.TIi2 z2)
    · exact (but.2 g D.TOz).trans k2
    · obtain ⟨o, e, r⟩ := k3
      exact ⟨o, (but.2 u D.i1z).trans e, r⟩
    · obtain ⟨o, e, r⟩ := k4
      exact ⟨o, (but.2 v D.i2z).trans e, r⟩
    · obtain ⟨o, e, _⟩ := seen p hp
      rw [upd_ne (Nat.ne_of_lt (Heap.lt_size e))]
      exact (free p hp).1
  done X eP ew eK calm i pins s σ H E I free z stop := by
    subst eP ew eK
    obtain ⟨z1, z2, ⟨x0, y0, z3⟩, z4, z5⟩ := z
    obtain ⟨xs, ys, sx, sy, over⟩ := stop
    obtain ⟨its, vx, px, _⟩ := seqB_of I sx
    obtain ⟨jts, vy, py, _⟩ := seqB_of I sy
    have lx := vx.length
    have ly := vy.length
    have none : its.toArray[i]? = none ∨ jts.toArray[i]? = none := over.imp (fun h => by simp; omega) (fun h => by simp; omega)
    refine zip_end (I.ok.hd calm) D z1 z2 z3 z4 z5 px py none fun k rest => ⟨rfl, ?_⟩
    refine I.turnedL (t' := s.toks) (ch := [q, m, g, u, v]) (fun p o out e => ?_) free
    simp only [List.mem_cons, List.not_mem_nil, or_false, not_or] at out
    exact rest p o out.1 out.2.2.1 out.2.2.2.1 out.2.2.2.2 e
def iZipB (K : PySem.W.Frag) (t1 t2 : Bool) (ta : TA) : TI := fun σ H R => ta σ H fun vs H1 => ∃ a b xs ys, vs = [.ref a, .ref b] ∧ SqB K t1 H1 a xs ∧ SqB K t2 H1 b ys ∧ R (ItzB K t1 t2 a b) H1
theorem pi_zipB {X : Cx} {e f : Expr} {ta : TA} {p pos tp : Pos} {elts : List Expr} {n : Nat} (K : PySem.W.Frag) (hK : X.K = K) (t1 t2 : Bool) (M : ∀ a b xs ys, Meets (Builtin.«zip.__new__» ⟨[.type "zip", .ref a, .ref b], []⟩) (zipSpec t1 t2 a b xs ys)) (gl : Gl X "zip") (no : X.mg "zip" = none) (args : PA X [e, f] ta)
    (hs : starEach [e, f] X.env = (false, eval e X.env) :: starEach [f] X.env := by rfl) (hp : (backTo pos (starEach [f] X.env)).any (·.1) = false := by rfl) :
    PI X (.Tuple elts n tp) (.Call (.Name "zip" p) [e, f] [] pos) (iZipB K t1 t2 ta) := by
  subst hK
  constructor
  intro pins s σ H R I h
  refine Call_ (ld_blt I gl no boot_zip (callWith_type1 (thn (args.run pos pins s σ H _ I h) ?_) hs hp))
  rintro us s1 ⟨vs, H1, I1, r, a, b, xs, ys, rfl, sx, sy, q⟩
  obtain ⟨u, us, rfl⟩ : ∃ u us', us = u :: us' := by cases r; exact ⟨_, _, rfl⟩
  obtain ⟨v, us, rfl⟩ : ∃ v us', us = v :: us' := by cases r with | cons _ r => cases r; exact ⟨_, _, rfl⟩
  cases r with
  | cons r1 r =>
    cases r with
    | cons r2 r =>
      cases r
      cases r1
      cases r2
      obtain ⟨its, vx, px, la⟩ := seqB_of I1 sx
      obtain ⟨jts, vy, py, lb⟩ := seqB_of I1 sy
      refine zip_made (M a b its.toArray jts.toArray) px py fun k c ec k1 k2 k3 k4 k5 all => wpAny_pyIter_zip k1 ?_
      subst ec
      refine ⟨s1.heap.objs.size + 4, [s1.heap.objs.size + 4, s1.heap.objs.size + 2, s1.heap.objs.size + 3, s1.heap.objs.size, s1.heap.objs.size + 1], _, _, H1, rfl, I1.kept (t' := s1.toks) all, turn_zipB (PySem.W.ktu_apart s1.heap.objs.size a b la lb), ⟨k1, k2, ⟨_, _, k3⟩, k4, k5⟩, fun p hp => ?_, q⟩
      have low : s1.heap.objs.size ≤ p := by
        simp only [List.mem_cons, List.not_mem_nil, or_false] at hp
        rcases hp with rfl | rfl | rfl | rfl | rfl <;> omega
      exact I1.fpOk low (I1.hok.fresh low)
/-- such a walk goes as far as the shorter one -/
theorem walk_zipB {K : PySem.W.Frag} {t1 t2 : Bool} {a b : Addr} {xs ys : List V} {n : Nat} (hn : n = min xs.length ys.length) :
    Walk (ItzB K t1 t2 a b) n (fun H => SqB K t1 H a xs ∧ SqB K t2 H b ys) (YPair (fun i => xs[i]?) (fun i => ys[i]?)) := by
  have both : ∀ i, i < n → i < xs.length ∧ i < ys.length := fun i h => by omega
  constructor
  · intro i H lt st
    obtain ⟨lx, ly⟩ := both i lt
    exact ⟨xs, ys, _, _, st.1, st.2, List.getElem?_eq_getElem lx, List.getElem?_eq_getElem ly⟩
  · intro H st
    exact ⟨xs, ys, st.1, st.2, by omega⟩
  · rintro i H v H' _ st ⟨p, x, y, e1, e2, e3, e4, e5⟩
    exact ⟨p, x, y, e1, e2, e3, e4 xs st.1, e5 ys st.2⟩
end Xby

set_option Elab.async false
set_option linter.all false
set_option maxRecDepth 100000
set_option maxHeartbeats 4000000
namespace K09
open PySem L2 Xby
def top (i : Nat) : Stmt := PySem.Challenge.pw_tableheld_k09_conditions_of_any_value.main.body.getD i (.Pass ⟨0, 0, 0, 0⟩)
def spInteger (K : PySem.W.Frag) : Sp := fun vs H Q _ => ∃ (v : V) (d : PyData), vs = [v] ∧ Dq K H v d ∧ Q (.bl (intV v)) H
def spWithin (K : PySem.W.Frag) : Sp := fun vs H Q _ => ∃ (v : V) (d : PyData) (lo hi : Int), vs = [v, .int lo, .int hi] ∧ Dq K H v d ∧ Q (.bl (okV lo hi v)) H
def spWord (K : PySem.W.Frag) : Sp := fun vs H Q _ => ∃ (v : V) (d : PyData), vs = [v] ∧ Dq K H v d ∧ Sh d ∧ ∀ H', Same H H' → Q (.bl (wordD d)) H'
def spCell (K : PySem.W.Frag) : Sp := fun vs H Q _ => ∃ (v : V) (d : PyData), vs = [v] ∧ Dq K H v d ∧ Sh d ∧ ∀ H', Same H H' → Q (.bl (cellD d)) H'
def spCols (K : PySem.W.Frag) : Sp := fun vs H Q _ => ∃ (v : V) (d : PyData), vs = [v] ∧ Dq K H v d ∧ Sh1 d ∧ ∀ H', Same H H' → Q (.bl (colsD d)) H'
def spRow (K : PySem.W.Frag) : Sp := fun vs H Q _ => ∃ (v : V) (d : PyData) (n : Nat), vs = [v, .int n] ∧ Dq K H v d ∧ Sh1 d ∧ n < 1000 ∧ ∀ H', Same H H' → Q (.bl (rowD n d)) H'
section
variable {P : Program} {w : World} {K : PySem.W.Frag} {mg : Str → Option Value} {base : Heap}
abbrev s_is_integer : Stmt := top 9
theorem sc_is_integer : FnScope ["value"] ["value"] (defScope s_is_integer) := ⟨rfl, rfl, rfl, by decide +kernel, rfl, by decide +kernel, by decide +kernel⟩
theorem ok_integer {f : Addr} {fd : FuncData} (F : Fun K "is_integer" "is_integer" s_is_integer f fd) (T : Txt K mg) : FnOk P w K mg base CX0 1 f fd ["value"] (spInteger K) := by
  refine F.ok sc_is_integer (fun vs H Q E h => ?_) (fun cdv A outer s H vs Q E hr h => ⟨_, (pss_one (ps_ret (pe_and (pe_callB (call_isiK K rfl) (by rfl) T.b_isinstance (by decide +kernel) (pa_cons (pv 0) (pa_cons (pe_bltn (v := .ty "int") (by rfl) T.b_int (by decide +kernel) rfl) pa_nil))) (pe_one (pe_not (pe_callB (call_isiK K rfl) (by rfl) T.b_isinstance (by decide +kernel) (pa_cons (pv 0) (pa_cons (pe_bltn (v := .ty "bool") (by rfl) T.b_bool (by decide +kernel) rfl) pa_nil)))))))), ?_⟩)
  · obtain ⟨_, _, rfl, _⟩ := h
    rfl
  obtain ⟨v, d, rfl, hd, k⟩ := h
  rcases hd.kind with ⟨b, rfl⟩ | ⟨i, rfl⟩ | ⟨T', ty, ⟨kb, ki⟩, no⟩
  · exact ⟨_, rfl, _, _, _, _, _, rfl, .ty _, .base (.bl b), kit_ty kit_bi, _, rfl, _, rfl, _, _, _, _, _, rfl, .ty _, .base (.bl b), kit_ty kit_bb, _, rfl, k⟩
  · exact ⟨_, rfl, _, _, _, _, _, rfl, .ty _, .base (.int i), kit_ty kit_ii, _, rfl, _, rfl, _, _, _, _, _, rfl, .ty _, .base (.int i), kit_ty kit_ib, _, rfl, k⟩
  · rw [intV_not no] at k
    exact ⟨_, rfl, _, _, _, _, _, rfl, .ty _, ty, kit_ty ki, _, rfl, k⟩
abbrev s_is_integer_within : Stmt := top 10
theorem sc_is_integer_within : FnScope ["value", "least", "most"] ["value", "least", "most"] (defScope s_is_integer_within) := ⟨rfl, rfl, rfl, by decide +kernel, rfl, by decide +kernel, by decide +kernel⟩
theorem ok_within {f fI : Addr} {fd fdI : FuncData} (F : Fun K "is_integer_within" "is_integer_within" s_is_integer_within f fd) (T : Txt K mg)
    (c_is_integer : ∀ base, Ca P w K mg base CX0 "is_integer" 1 ["value"] (spInteger K) fI fdI) : FnOk P w K mg base CX0 2 f fd ["value", "least", "most"] (spWithin K) := by
  have c_is_integer := c_is_integer base
  refine F.ok sc_is_integer_within (fun vs H Q E h => ?_) (fun cdv A outer s H vs Q E hr h => ⟨_, (pss_one (ps_ret (pe_and (pe_call c_is_integer.G (hr.mono (by first | decide | omega)) (by rfl) c_is_integer.g c_is_integer.k c_is_integer.B .nil pass0 (pa_cons (pv 0) pa_nil)) (pe_one (pe_chain op_le op_le (pv 1) (pv 0) (pv 2)))))), ?_⟩)
  · obtain ⟨_, _, _, _, rfl, _⟩ := h
    rfl
  obtain ⟨v, d, lo, hi, rfl, hd, k⟩ := h
  refine ⟨_, rfl, v, d, rfl, hd, _, rfl, ite2 (fun hint => ?_) (fun hn => ?_)⟩
  · obtain ⟨i, rfl⟩ := intV_is hint
    refine ⟨_, rfl, _, rfl, _, _, rfl, rfl, _, rfl, ite2 (fun h1 => ?_) (fun h1 => ?_)⟩
    · refine ⟨_, rfl, _, _, rfl, rfl, ?_⟩
      have e : decide (i ≤ hi) = okV lo hi (.int i) := by
        have := of_decide_eq_true h1
        show _ = decide (lo ≤ i ∧ i ≤ hi)
        congr 1
        exact propext ⟨fun z => ⟨this, z⟩, fun z => z.2⟩
      show Q (.bl (decide (i ≤ hi))) H
      rw [e]
      exact k
    · have e : okV lo hi (.int i) = false := decide_eq_false fun z => h1 (decide_eq_true z.1)
      rw [e] at k
      exact k
  · have e : okV lo hi v = false := by
      cases v with
      | int i => exact absurd rfl hn
      | _ => rfl
    rw [e] at k
    exact k
abbrev s_is_word : Stmt := top 32
theorem sc_is_word : FnScope ["value", "letter"] ["value"] (defScope s_is_word) := ⟨rfl, rfl, rfl, by decide +kernel, rfl, by decide +kernel, by decide +kernel⟩
theorem ok_word {f : Addr} {fd : FuncData} (F : Fun K "is_word" "is_word" s_is_word f fd) (T : Txt K mg) : FnOk P w K mg base CX0 1 f fd ["value"] (spWord K) := by
  refine F.ok sc_is_word (fun vs H Q E h => ?_) (fun cdv A outer s H vs Q E hr h => ⟨_, (pss_cons (ps_if (PW.pt (pw_or (pt_not (pt_val (pe_callB (call_isiK K rfl) (by rfl) T.b_isinstance (by decide +kernel) (pa_cons (pv 0) (pa_cons (pe_bltn (v := .ty "str") (by rfl) T.b_str (by decide +kernel) rfl) pa_nil))))) (pw_or1 (pt_not (pt_chain op_le op_le pe_int (pe_callB (call_lenK K rfl) (by rfl) T.b_len (by decide +kernel) (pa_cons (pv 0) pa_nil)) (pe_glob (v := .int 8) rfl T.c_LONGEST_WORD ⟨_, rfl⟩)))))) (pss_one (ps_ret pe_bl)) pss_nil)
    (pss_one (ps_ret (pe_callB (cr_allK K rfl rfl) (by rfl) T.b_all (by decide +kernel) (pa_cons (pe_lc (own := [("letter", 1)]) (g := gName 1) (tt := tYes) rfl sc_is_word.nd (pi_str (pv 0)) (blkOk_by (N := ["value", "letter"]) (sc := defScope s_is_word) (by decide +kernel)) (fun _ _ _ _ _ => (pg_name (i := 1) sc_is_word.nd rfl (Or.inl rfl))) (fun _ _ _ _ _ => pts_nil) (fun _ _ _ _ _ => (pe_chain op_le_str op_le_str pe_str (pv 1) pe_str))) pa_nil))))), ?_⟩)
  · obtain ⟨_, _, rfl, _⟩ := h
    rfl
  obtain ⟨v, d, rfl, hd, sh, k⟩ := h
  rcases hd.isStr with ⟨x, rfl, rfl⟩ | ⟨T', ty, kt, no⟩
  · refine ⟨_, rfl, _, _, _, _, _, rfl, .ty _, .base (.str x), kit_ty kit_ss, _, rfl, ?_⟩
    have hx : x.length ≤ 1000000 := sh x rfl
    have ew : wordD (.str x) = (decide (1 ≤ x.length ∧ x.length ≤ 8) && x.cps.toList.all lowC) := rfl
    rw [ew] at k
    have rest : decide (1 ≤ x.length ∧ x.length ≤ 8) = false → Q (.bl false) H := fun n => by
      have := k H (Same.refl H)
      rw [n, Bool.false_and] at this
      exact this
    refine ⟨_, rfl, _, _, rfl, ⟨Nat.le_trans hx (by decide), rfl⟩, _, _, rfl, rfl, _, rfl, ite2 (fun h1 => ?_) (fun h1 => ?_)⟩
    · have h1' := of_decide_eq_true h1
      refine ⟨_, _, rfl, rfl, _, rfl, ite2 (fun h8 => ?_) (fun h8 => ?_)⟩
      · have h8' : ¬ ((x.length : Int) ≤ 8) := by simpa using h8
        refine rest (decide_eq_false fun z => h8' ?_)
        omega
      · have h8' : (x.length : Int) ≤ 8 := by simpa using h8
        have ok : decide (1 ≤ x.length ∧ x.length ≤ 8) = true := decide_eq_true (by omega)
        rw [ok, Bool.true_and] at k
        refine ⟨_, rfl, x, rfl, fun D nD => lc_it walk_str (fun i H' => H' = upd H D (.lst (((x.cps.toList.take i).map lowC).map V.bl))) rfl (fun i H' _ _ => trivial) ?_ ?_⟩
        · rintro i v H1 H2 hi rfl ⟨rfl, c, hc, rfl⟩
          have hl : x.cps.toList[i]? = some c := by rw [Array.getElem?_toList]; exact hc
          have few : (((x.cps.toList.take i).map lowC).map V.bl).length < sizeLine := by
            rw [List.length_map, List.length_map, List.length_take]
            have : x.cps.toList.length = x.length := Array.length_toList
            exact Nat.lt_of_le_of_lt (Nat.min_le_right _ _) (by rw [this]; exact Nat.lt_of_le_of_lt hx (by decide))
          have fin : ∀ b : Bool, b = lowC c → upd (upd H D (.lst (((x.cps.toList.take i).map lowC).map V.bl))) D (.lst ((((x.cps.toList.take i).map lowC).map V.bl) ++ [.bl b])) = upd H D (.lst (((x.cps.toList.take (i + 1)).map lowC).map V.bl)) := fun b hb => by
            rw [upd_upd, List.take_succ, hl, hb, List.map_append, List.map_append]
            rfl
          refine ⟨rfl, _, rfl, _, _, rfl, rfl, _, rfl, ite2 (fun ha => ?_) (fun ha => ?_)⟩
          · rw [le_a] at ha
            refine ⟨_, _, rfl, rfl, _, upd_same, few, fin _ ?_⟩
            rw [le_z]
            have := of_decide_eq_true ha
            by_cases h : c ≤ 122
            · rw [decide_eq_true h]
              exact (decide_eq_true ⟨this, h⟩).symm
            · rw [decide_eq_false h]
              exact (decide_eq_false fun z => h z.2).symm
          · rw [le_a] at ha
            refine ⟨_, upd_same, few, fin _ ?_⟩
            exact (decide_eq_false fun z => ha (decide_eq_true z.1)).symm
        · rintro H1 rfl
          refine ⟨D, x.cps.toList.map lowC, rfl, ?_, ?_⟩
          · refine SqL.of ?_
            have : x.cps.toList.take x.cps.size = x.cps.toList := List.take_of_length_le (by rw [Array.length_toList]; exact Nat.le_refl _)
            rw [this]
            exact upd_same
          · have : (x.cps.toList.map lowC).all id = x.cps.toList.all lowC := by rw [List.all_map]; rfl
            rw [this]
            exact k _ (Same.one nD)
    · refine ⟨_, rfl, rest (decide_eq_false fun z => h1 (decide_eq_true ?_))⟩
      omega
  · rw [no] at k
    refine ⟨_, rfl, _, _, _, _, _, rfl, .ty _, ty, kit_ty kt, _, rfl, ?_⟩
    exact k H (Same.refl H)
abbrev s_is_cell : Stmt := top 33
theorem sc_is_cell : FnScope ["value"] ["value"] (defScope s_is_cell) := ⟨rfl, rfl, rfl, by decide +kernel, rfl, by decide +kernel, by decide +kernel⟩
theorem ok_cell {f fW fI : Addr} {fd fdW fdI : FuncData} (F : Fun K "is_cell" "is_cell" s_is_cell f fd) (T : Txt K mg)
    (c_is_integer_within : ∀ base, Ca P w K mg base CX0 "is_integer_within" 2 ["value", "least", "most"] (spWithin K) fI fdI) (c_is_word : ∀ base, Ca P w K mg base CX0 "is_word" 1 ["value"] (spWord K) fW fdW) : FnOk P w K mg base CX0 3 f fd ["value"] (spCell K) := by
  have c_is_integer_within := c_is_integer_within base
  have c_is_word := c_is_word base
  refine F.ok sc_is_cell (fun vs H Q E h => ?_) (fun cdv A outer s H vs Q E hr h => ⟨_, (pss_one (ps_ret (pe_or (pe_cmpR op_isN (pv 0) pe_non (nomark _)) (pe_or (pe_call c_is_integer_within.G (hr.mono (by first | decide | omega)) (by rfl) c_is_integer_within.g c_is_integer_within.k c_is_integer_within.B .nil pass0 (pa_cons (pv 0) (pa_cons (pe_un un_neg (pe_glob (v := .int 999) rfl T.c_GREATEST_NUMBER ⟨_, rfl⟩)) (pa_cons (pe_glob (v := .int 999) rfl T.c_GREATEST_NUMBER ⟨_, rfl⟩) pa_nil)))) (pe_one (pe_call c_is_word.G (hr.mono (by first | decide | omega)) (by rfl) c_is_word.g c_is_word.k c_is_word.B .nil pass0 (pa_cons (pv 0) pa_nil))))))), ?_⟩)
  · obtain ⟨_, _, rfl, _⟩ := h
    rfl
  obtain ⟨v, d, rfl, hd, sh, k⟩ := h
  refine ⟨_, rfl, rfl, _, rfl, ite2 (fun hn => ?_) (fun hn => ?_)⟩
  · obtain rfl := of_decide_eq_true hn
    cases hd
    exact k H (Same.refl H)
  · have nn : nonD d = false := by
      cases hd with
      | non => exact absurd (decide_eq_true rfl) hn
      | _ => rfl
    have ec : cellD d = (intD (-999) 999 d || wordD d) := by
      unfold cellD
      rw [nn, Bool.false_or]
    rw [ec, ← hd.okV] at k
    refine ⟨_, rfl, _, rfl, v, d, -999, 999, rfl, hd, _, rfl, ite2 (fun h => ?_) (fun h => ?_)⟩
    · rw [h, Bool.true_or] at k
      exact k H (Same.refl H)
    · rw [Bool.eq_false_iff.mpr h, Bool.false_or] at k
      exact ⟨_, rfl, v, d, rfl, hd, sh, k⟩
abbrev s_are_columns : Stmt := top 34
theorem sc_are_columns : FnScope ["value", "name"] ["value"] (defScope s_are_columns) := ⟨rfl, rfl, rfl, by decide +kernel, rfl, by decide +kernel, by decide +kernel⟩
theorem ok_cols {f fW : Addr} {fd fdW : FuncData} (F : Fun K "are_columns" "are_columns" s_are_columns f fd) (T : Txt K mg)
    (c_is_word : ∀ base, Ca P w K mg base CX0 "is_word" 1 ["value"] (spWord K) fW fdW) : FnOk P w K mg base CX0 2 f fd ["value"] (spCols K) := by
  have c_is_word := c_is_word base
  refine F.ok sc_are_columns (fun vs H Q E h => ?_) (fun cdv A outer s H vs Q E hr h => ⟨_, (pss_cons (ps_if (PW.pt (pw_or (pt_not (pt_val (pe_callB (call_isiK K rfl) (by rfl) T.b_isinstance (by decide +kernel) (pa_cons (pv 0) (pa_cons (pe_bltn (v := .ty "tuple") (by rfl) T.b_tuple (by decide +kernel) rfl) pa_nil))))) (pw_or1 (pt_not (pt_chain op_le op_le pe_int (pe_callB (call_lenK K rfl) (by rfl) T.b_len (by decide +kernel) (pa_cons (pv 0) pa_nil)) (pe_glob (v := .int 3) rfl T.c_MOST_COLUMNS ⟨_, rfl⟩)))))) (pss_one (ps_ret pe_bl)) pss_nil)
    (pss_one (ps_ret (pe_and (pe_callB (cr_allK K rfl rfl) (by rfl) T.b_all (by decide +kernel) (pa_cons (pe_lc (own := [("name", 1)]) (g := gName 1) (tt := tYes) rfl sc_are_columns.nd (pi_tupK K rfl (pv 0)) (blkOk_by (N := ["value", "name"]) (sc := defScope s_are_columns) (by decide +kernel)) (fun _ _ _ _ _ => (pg_name (i := 1) sc_are_columns.nd rfl (Or.inl rfl))) (fun _ _ _ _ _ => pts_nil) (fun _ _ _ _ _ => (pe_call c_is_word.G (hr.mono (by first | decide | omega)) (by rfl) c_is_word.g c_is_word.k c_is_word.B .nil pass0 (pa_cons (pv 1) pa_nil)))) pa_nil)) (pe_one (pe_cmpR op_eq (pe_lenSetTK K rfl rfl (by rfl) T.b_len (by rfl) T.b_set (pv 0)) (pe_callB (call_lenK K rfl) (by rfl) T.b_len (by decide +kernel) (pa_cons (pv 0) pa_nil)) (nomark _))))))), ?_⟩)
  · obtain ⟨_, _, rfl, _⟩ := h
    rfl
  obtain ⟨v, d, rfl, hd, sh, k⟩ := h
  rcases hd.isTup with ⟨a, xs, ds, rfl, rfl, hs, ha⟩ | ⟨T', ty, kt, no⟩
  · have len := ha.len
    have ec : colsD (.tuple ds) = (decide (1 ≤ ds.length ∧ ds.length ≤ 3) && ds.all wordD && decide (ds.map strD).Nodup) := rfl
    rw [ec] at k
    have rest : decide (1 ≤ ds.length ∧ ds.length ≤ 3) = false → Q (.bl false) H := fun n => by
      have := k H (Same.refl H)
      rw [n, Bool.false_and, Bool.false_and] at this
      exact this
    refine ⟨_, rfl, _, _, _, _, _, rfl, .ty _, tyTup hs, kit_ty kit_tt, _, rfl, ?_⟩
    refine ⟨_, rfl, _, _, rfl, .inr ⟨xs, hs, rfl⟩, _, _, rfl, rfl, _, rfl, ite2 (fun h1 => ?_) (fun h1 => ?_)⟩
    · have h1' := of_decide_eq_true h1
      refine ⟨_, _, rfl, rfl, _, rfl, ite2 (fun h8 => ?_) (fun h8 => ?_)⟩
      · have h8' : ¬ ((xs.length : Int) ≤ 3) := by simpa using h8
        refine rest (decide_eq_false fun z => h8' ?_)
        omega
      · have h8' : (xs.length : Int) ≤ 3 := by simpa using h8
        have ok : decide (1 ≤ ds.length ∧ ds.length ≤ 3) = true := decide_eq_true (by omega)
        rw [ok, Bool.true_and] at k
        refine ⟨_, rfl, a, rfl, ⟨_, hs⟩, fun D nD => lc_tup (K := K) (a := a) (xs := xs) (fun i H' => H' D = some (.lst (((ds.take i).map wordD).map V.bl)) ∧ Same H H') ⟨upd_same, Same.one nD⟩ (fun i H' _ z => hs.ext z.2) ?_ ?_⟩
        · rintro i v H1 hi ⟨hD, s1⟩
          obtain ⟨e, he, hq⟩ := ha.get hi
          refine ⟨rfl, _, rfl, v, e, rfl, hq.same s1, sh _ rfl e (List.mem_of_getElem? he), fun H2 s2 => ⟨_, s2 _ _ hD, ?_, ?_, Same.updN (s1.trans s2) nD⟩⟩
          · rw [List.length_map, List.length_map, List.length_take]
            exact Nat.lt_of_le_of_lt (Nat.min_le_right _ _) (show ds.length < sizeLine by have : sizeLine = 16777216 := sizeLine_eq; omega)
          · rw [upd_same, List.take_succ, he, List.map_append, List.map_append]
            rfl
        · rintro H1 ⟨hD, s1⟩
          rw [len, List.take_length] at hD
          refine ⟨D, ds.map wordD, rfl, SqL.of hD, ?_⟩
          have e1 : (ds.map wordD).all id = ds.all wordD := by rw [List.all_map]; rfl
          rw [e1]
          refine ⟨_, rfl, ite2 (fun hw => ?_) (fun hw => ?_)⟩
          · rw [hw, Bool.true_and] at k
            have ex : xs = (ds.map strD).map V.str := ha.words hw
            refine ⟨_, rfl, a, ds.map strD, rfl, ?_, by rw [List.length_map]; omega, _, rfl, _, _, rfl, .inr ⟨xs, hs.ext s1, rfl⟩, rfl, ?_⟩
            · rw [← ex]
              exact hs.ext s1
            · have : decide (V.int ((news (ds.map strD) (ds.map strD).length : Nat) : Int) = V.int ((xs.length : Nat) : Int)) = decide (ds.map strD).Nodup := by
                have := news_all (ys := ds.map strD) (Nat.le_refl _)
                rw [List.take_length] at this
                have l2 : xs.length = (ds.map strD).length := by rw [List.length_map, len]
                rw [l2]
                congr 1
                refine propext ⟨fun z => this.mp ?_, fun z => by rw [this.mpr z]⟩
                have := V.int.inj z
                omega
              rw [this]
              exact k _ s1
          · rw [Bool.eq_false_iff.mpr hw, Bool.false_and] at k
            exact k _ s1
    · refine ⟨_, rfl, rest (decide_eq_false fun z => h1 (decide_eq_true ?_))⟩
      omega
  · refine ⟨_, rfl, _, _, _, _, _, rfl, .ty _, ty, kit_ty kt, _, rfl, ?_⟩
    have : colsD d = false := by
      cases d with
      | tuple ds => exact absurd rfl (no ds)
      | _ => rfl
    rw [this] at k
    exact k H (Same.refl H)
abbrev s_is_row : Stmt := top 35
theorem sc_is_row : FnScope ["value", "width", "cell"] ["value", "width"] (defScope s_is_row) := ⟨rfl, rfl, rfl, by decide +kernel, rfl, by decide +kernel, by decide +kernel⟩
theorem ok_row {f fW : Addr} {fd fdW : FuncData} (F : Fun K "is_row" "is_row" s_is_row f fd) (T : Txt K mg)
    (c_is_cell : ∀ base, Ca P w K mg base CX0 "is_cell" 3 ["value"] (spCell K) fW fdW) : FnOk P w K mg base CX0 4 f fd ["value", "width"] (spRow K) := by
  have c_is_cell := c_is_cell base
  refine F.ok sc_is_row (fun vs H Q E h => ?_) (fun cdv A outer s H vs Q E hr h => ⟨_, (pss_cons (ps_if (PW.pt (pw_or (pt_not (pt_val (pe_callB (call_isiK K rfl) (by rfl) T.b_isinstance (by decide +kernel) (pa_cons (pv 0) (pa_cons (pe_bltn (v := .ty "tuple") (by rfl) T.b_tuple (by decide +kernel) rfl) pa_nil))))) (pw_or1 (pt_cmpR op_ne (pe_callB (call_lenK K rfl) (by rfl) T.b_len (by decide +kernel) (pa_cons (pv 0) pa_nil)) (pv 1) (nomark _))))) (pss_one (ps_ret pe_bl)) pss_nil)
    (pss_one (ps_ret (pe_callB (cr_allK K rfl rfl) (by rfl) T.b_all (by decide +kernel) (pa_cons (pe_lc (own := [("cell", 2)]) (g := gName 2) (tt := tYes) rfl sc_is_row.nd (pi_tupK K rfl (pv 0)) (blkOk_by (N := ["value", "width", "cell"]) (sc := defScope s_is_row) (by decide +kernel)) (fun _ _ _ _ _ => (pg_name (i := 2) sc_is_row.nd rfl (Or.inl rfl))) (fun _ _ _ _ _ => pts_nil) (fun _ _ _ _ _ => (pe_call c_is_cell.G (hr.mono (by first | decide | omega)) (by rfl) c_is_cell.g c_is_cell.k c_is_cell.B .nil pass0 (pa_cons (pv 2) pa_nil)))) pa_nil))))), ?_⟩)
  · obtain ⟨_, _, _, rfl, _⟩ := h
    rfl
  obtain ⟨v, d, n, rfl, hd, sh, few, k⟩ := h
  rcases hd.isTup with ⟨a, xs, ds, rfl, rfl, hs, ha⟩ | ⟨T', ty, kt, no⟩
  · have len := ha.len
    have ec : rowD n (.tuple ds) = (decide (ds.length = n) && ds.all cellD) := rfl
    rw [ec] at k
    refine ⟨_, rfl, _, _, _, _, _, rfl, .ty _, tyTup hs, kit_ty kit_tt, _, rfl, ?_⟩
    refine ⟨_, rfl, _, _, rfl, .inr ⟨xs, hs, rfl⟩, _, rfl, rfl, _, rfl, ite2 (fun h1 => ?_) (fun h1 => ?_)⟩
    · have ne : ds.length ≠ n := fun z => by
        rw [len, z] at h1
        simp at h1
      rw [decide_eq_false ne, Bool.false_and] at k
      exact k H (Same.refl H)
    · have eq : ds.length = n := by
        have : V.int ((xs.length : Nat) : Int) = V.int (n : Int) := by simpa using h1
        have := V.int.inj this
        omega
      rw [decide_eq_true eq, Bool.true_and] at k
      refine ⟨_, rfl, a, rfl, ⟨_, hs⟩, fun D nD => lc_tup (K := K) (a := a) (xs := xs) (fun i H' => H' D = some (.lst (((ds.take i).map cellD).map V.bl)) ∧ Same H H') ⟨upd_same, Same.one nD⟩ (fun i H' _ z => hs.ext z.2) ?_ ?_⟩
      · rintro i v H1 hi ⟨hD, s1⟩
        obtain ⟨e, he, hq⟩ := ha.get hi
        refine ⟨rfl, _, rfl, v, e, rfl, hq.same s1, sh _ rfl e (List.mem_of_getElem? he), fun H2 s2 => ⟨_, s2 _ _ hD, ?_, ?_, Same.updN (s1.trans s2) nD⟩⟩
        · rw [List.length_map, List.length_map, List.length_take]
          exact Nat.lt_of_le_of_lt (Nat.min_le_right _ _) (show ds.length < sizeLine by have : sizeLine = 16777216 := sizeLine_eq; omega)
        · rw [upd_same, List.take_succ, he, List.map_append, List.map_append]
          rfl
      · rintro H1 ⟨hD, s1⟩
        rw [len, List.take_length] at hD
        refine ⟨D, ds.map cellD, rfl, SqL.of hD, ?_⟩
        have e1 : (ds.map cellD).all id = ds.all cellD := by rw [List.all_map]; rfl
        rw [e1]
        exact k _ s1
  · refine ⟨_, rfl, _, _, _, _, _, rfl, .ty _, ty, kit_ty kt, _, rfl, ?_⟩
    have : rowD n d = false := by
      cases d with
      | tuple ds => exact absurd rfl (no ds)
      | _ => rfl
    rw [this] at k
    exact k H (Same.refl H)
end
/-- what is raised -/
def Raised (EK ER EW EM : Addr) (r : Fk × V) (E : XK) (H : Hp) : Prop := ∀ (d : Addr) (H' : Hp), Same H H' →
  (r.1 = .columns → H' d = some (.xd [(("value" : Str), r.2)]) → E (.ref EK) (some d) H') ∧ (r.1 = .rows → H' d = some (.xd [(("value" : Str), r.2)]) → E (.ref ER) (some d) H') ∧
  (r.1 = .row → H' d = some (.xd [(("value" : Str), r.2)]) → E (.ref EW) (some d) H') ∧ (r.1 = .many → H' d = some (.xd [(("limit" : Str), r.2)]) → E (.ref EM) (some d) H')
theorem raised_none {EK ER EW EM : Addr} {r : Fk × V} {E : XK} {H : Hp} (e : r.1 = .none) : Raised EK ER EW EM r E H := fun _ _ _ =>
  ⟨fun z _ => Fk.noConfusion (z.symm.trans e), fun z _ => Fk.noConfusion (z.symm.trans e), fun z _ => Fk.noConfusion (z.symm.trans e), fun z _ => Fk.noConfusion (z.symm.trans e)⟩
def spInit (K : PySem.W.Frag) (C EK ER EW EM : Addr) : Sp := fun vs H Q E => ∃ (x dx : Addr) (vh vr : V) (dh dr : PyData) (xs : List V), vs = [.ref x, vh, vr] ∧ H x = some (.ins C dx []) ∧ Two K H vh vr dh dr xs ∧
  Raised EK ER EW EM (due vh vr dh dr xs) E H ∧ ((due vh vr dh dr xs).1 = .none → ∀ H', But x H H' → H' x = some (.ins C dx (flds vh vr)) → Q .non H')
section
variable {P : Program} {w : World} {K : PySem.W.Frag} {mg : Str → Option Value} {base : Heap}
abbrev s_Table___init__ : Stmt := inClass (top 36) 0
theorem sc_Table___init__ : FnScope ["self", "columns", "rows", "row"] ["self", "columns", "rows"] (defScope s_Table___init__) := ⟨rfl, rfl, rfl, by decide +kernel, rfl, by decide +kernel, by decide +kernel⟩
theorem ok_init {f fK fR : Addr} {fd fdK fdR : FuncData} (F : Fun K "__init__" "Table.__init__" s_Table___init__ f fd) (T : Txt K mg)
    (c_are_columns : ∀ base, Ca P w K mg base CX0 "are_columns" 2 ["value"] (spCols K) fK fdK) (c_is_row : ∀ base, Ca P w K mg base CX0 "is_row" 4 ["value", "width"] (spRow K) fR fdR) : FnOk P w K mg base (L2.CX P w) 5 f fd ["self", "columns", "rows"] (spInit K T.C T.EK T.ER T.EW T.EM) := by
  have c_are_columns := c_are_columns base
  have c_is_row := c_is_row base
  refine F.okX sc_Table___init__ (fun vs H Q E h => ?_) (fun cdv A outer s H vs Q E hr h => ⟨_, (pss_cons (ps_if (pt_not (pt_val (pe_call c_are_columns.G (hr.mono (by first | decide | omega)) (by rfl) c_are_columns.g c_are_columns.k c_are_columns.B .nil pass0 (pa_cons (pv 1) pa_nil)))) (pss_one (L2.LowV.ps_raiseLow rfl T.eK hr (takes_of rfl rfl rfl rfl) (by exact (pa_cons (pv 1) pa_nil)))) pss_nil)
    (pss_cons (ps_if (pt_not (pt_val (pe_callB (call_isiK K rfl) (by rfl) T.b_isinstance (by decide +kernel) (pa_cons (pv 2) (pa_cons (pe_bltn (v := .ty "tuple") (by rfl) T.b_tuple (by decide +kernel) rfl) pa_nil))))) (pss_one (L2.LowV.ps_raiseLow rfl T.eR hr (takes_of rfl rfl rfl rfl) (by exact (pa_cons (pv 2) pa_nil)))) pss_nil)
    (pss_cons (ps_if (pt_cmpR op_gt (pe_callB (call_lenK K rfl) (by rfl) T.b_len (by decide +kernel) (pa_cons (pv 2) pa_nil)) (pe_glob (v := .int 6) rfl T.c_MOST_ROWS ⟨_, rfl⟩) (nomark _)) (pss_one (L2.LowL.ps_raiseLow rfl T.eM hr (takes_of rfl rfl rfl rfl) (by exact (pa_cons (pe_glob (v := .int 6) rfl T.c_MOST_ROWS ⟨_, rfl⟩) pa_nil)))) pss_nil)
    (pss_cons (ps_for (passes_of rfl) rfl (pi_tupK K rfl (pv 2)) (pg_name (i := 3) sc_Table___init__.nd rfl (Or.inl rfl)) (pss_one (ps_if (pt_not (pt_val (pe_call c_is_row.G (hr.mono (by first | decide | omega)) (by rfl) c_is_row.g c_is_row.k c_is_row.B .nil pass0 (pa_cons (pv 3) (pa_cons (pe_callB (call_lenK K rfl) (by rfl) T.b_len (by decide +kernel) (pa_cons (pv 1) pa_nil)) pa_nil))))) (pss_one (L2.LowV.ps_raiseLow rfl T.eW hr (takes_of rfl rfl rfl rfl) (by exact (pa_cons (pv 3) pa_nil)))) pss_nil)))
    (pss_cons (ps_fld (pv 0) (pv 1) rfl)
    (pss_one (ps_fld (pv 0) (pv 2) rfl))))))), ?_⟩)
  · obtain ⟨_, _, _, _, _, _, _, rfl, _⟩ := h
    rfl
  obtain ⟨x, dx, vh, vr, dh, dr, xs, rfl, hx, two, kE, kG⟩ := h
  refine ⟨_, rfl, vh, dh, rfl, two.h, two.s1, fun H1 s1 => ?_⟩
  cases hc : colsD dh with
  | false =>
    refine ⟨_, rfl, _, rfl, vh, rfl, fun d' nd => ?_⟩
    refine (kE d' _ (Same.upd s1 nd)).1 (by rw [due_cols hc]) ?_
    rw [due_cols hc]
    exact upd_same
  | true =>
    refine ⟨_, rfl, ?_⟩
    rcases (two.r.same s1).isTup with ⟨a0, _, ds, _, e, _, _⟩ | ⟨T', ty, kt, no⟩
    · subst e
      obtain ⟨a, rfl, hs, ha⟩ := two.x ds rfl
      have len := ha.len
      obtain ⟨cs, rfl⟩ : ∃ cs, dh = .tuple cs := by
        cases dh with
        | tuple cs => exact ⟨cs, rfl⟩
        | _ => cases hc
      obtain ⟨ac, xc, rfl, hsc, hac⟩ := two.h.ofTup
      have lenc := hac.len
      have ec : colsD (.tuple cs) = (decide (1 ≤ cs.length ∧ cs.length ≤ 3) && cs.all wordD && decide (cs.map strD).Nodup) := rfl
      have wide : cs.length ≤ 3 := by
        rw [ec, Bool.and_eq_true, Bool.and_eq_true] at hc
        exact (of_decide_eq_true hc.1.1).2
      refine ⟨_, rfl, _, _, _, _, _, rfl, .ty _, tyTup (hs.ext s1), kit_ty kit_tt, _, rfl, ?_⟩
      refine ⟨_, rfl, _, _, rfl, .inr ⟨xs, hs.ext s1, rfl⟩, _, _, rfl, rfl, _, rfl, ite2 (fun h => ?_) (fun h => ?_)⟩
      · have m : 6 < ds.length := by
          have := of_decide_eq_true h
          omega
        refine ⟨.int 6, rfl, fun d' nd => ?_⟩
        refine (kE d' _ (Same.upd s1 nd)).2.2.2 (by rw [due_many hc m]) ?_
        rw [due_many hc m]
        exact upd_same
      · have m : ¬ 6 < ds.length := fun z => h (decide_eq_true (by omega))
        refine ⟨_, rfl, a, rfl, ⟨_, hs.ext s1⟩, for_tup (K := K) (a := a) (xs := xs) (fun i σ H' => ∃ o, σ = [some (.ref x), some (.ref ac), some (.ref a), o] ∧ Same H H' ∧ ∀ j e, j < i → ds[j]? = some e → rowD cs.length e = true)
          ⟨none, rfl, s1, fun j e hj _ => absurd hj (Nat.not_lt_zero j)⟩ (fun i σ H' _ ⟨_, _, z, _⟩ => hs.ext z) ?_ ?_⟩
        · rintro i v σ H2 hi ⟨o, rfl, s2, before⟩
          obtain ⟨e, he, hq⟩ := ha.get hi
          refine ⟨_, rfl, _, rfl, _, _, rfl, .inr ⟨xc, hsc.ext s2, rfl⟩, v, e, xc.length, rfl, hq.same s2, two.s2 _ rfl e (List.mem_of_getElem? he), by omega, fun H3 s3 => ?_⟩
          rw [lenc]
          cases hrow : rowD cs.length e with
          | true =>
            refine ⟨_, rfl, _, rfl, s2.trans s3, fun j e' hj he' => ?_⟩
            rcases Nat.lt_succ_iff_lt_or_eq.mp hj with hj | rfl
            · exact before j e' hj he'
            · rw [he] at he'
              rw [← Option.some.inj he']
              exact hrow
          | false =>
            refine ⟨_, rfl, _, rfl, v, rfl, fun d' nd => ?_⟩
            have b : firstBad (wid (.tuple cs)) xs ds = some v := bad_at hi he before hrow
            refine (kE d' _ (Same.upd (s2.trans s3) nd)).2.2.1 (by rw [due_row hc m b]) ?_
            rw [due_row hc m b]
            exact upd_same
        · rintro σ H2 ⟨o, rfl, s2, all⟩
          have b : firstBad (wid (.tuple cs)) xs ds = none := bad_no fun e he => by
            obtain ⟨j, hj⟩ := List.getElem?_of_mem he
            refine all j e ?_ hj
            rw [len]
            exact (List.getElem?_eq_some_iff.mp hj).1
          refine ⟨_, rfl, _, rfl, x, T.C, dx, _, rfl, s2 _ _ hx, T.cl, T.n_columns, by decide, ?_⟩
          refine ⟨_, rfl, _, rfl, x, T.C, dx, _, rfl, upd_same, T.cl, T.n_rows, by show 1 < 1000; decide, ?_⟩
          exact kG (by rw [due_none hc m b]) _ (((But.of s2).upd).upd) upd_same
    · refine ⟨_, rfl, _, _, _, _, _, rfl, .ty _, ty, kit_ty kt, _, rfl, ?_⟩
      refine ⟨_, rfl, vr, rfl, fun d' nd => ?_⟩
      refine (kE d' _ (Same.upd s1 nd)).2.1 (by rw [due_rows hc no]) ?_
      rw [due_rows hc no]
      exact upd_same
end
end K09

set_option Elab.async false
set_option linter.all false
set_option maxRecDepth 100000
set_option maxHeartbeats 4000000
namespace K09
open PySem L2 Xby
section
variable {P : Program} {w : World} {K : PySem.W.Frag} {mg : Str → Option Value} {base : Heap}
abbrev s_law_draw : Stmt := top 38
theorem sc_law_draw : FnScope ["_law_pot_here", "_law_many", "_law_digit", "_law_prime", "_law_made"] ["_law_pot_here", "_law_many"] (defScope s_law_draw) := ⟨rfl, rfl, rfl, by decide +kernel, rfl, by decide +kernel, by decide +kernel⟩
theorem ok_draw {f : Addr} {fd : FuncData} (F : Fun K "_law_draw" "_law_draw" s_law_draw f fd) (T : Txt K mg) : FnOk P w K mg base CX0 1 f fd ["_law_pot_here", "_law_many"] spDraw := by
  refine F.ok sc_law_draw (fun vs H Q E h => ?_) (fun cdv A outer s H vs Q E hr h => ⟨_, (pss_cons (ps_if (pt_cmpR op_gt (pe_ix (ix_listK K rfl) (pv 0) pe_int (fun _ _ => rfl)) pe_int (nomark _)) (pss_cons (ps_set (i := 2) sc_law_draw.nd rfl (Or.inl rfl) (pe_op op_mod (pe_callTy call_int1 (by rfl) T.b_int (by decide +kernel) (pa_cons (pe_ix (ix_listK K rfl) (pv 0) pe_int (fun _ _ => rfl)) pa_nil)) (pv 1)))
    (pss_cons (ps_asg (pe_op op_fdivW (pe_ix (ix_listK K rfl) (pv 0) pe_int (fun _ _ => rfl)) (pv 1)) (pg_sub (pv 0) pe_int set_list))
    (pss_one (ps_ret (pv 2))))) pss_nil)
    (pss_cons (ps_asg (pe_op op_add (pe_ix (ix_listK K rfl) (pv 0) pe_int (fun _ _ => rfl)) pe_int) (pg_sub (pv 0) pe_int set_list))
    (pss_cons (ps_set (i := 3) sc_law_draw.nd rfl (Or.inl rfl) (pe_ix (ix_listK K rfl) (pe_lst (pa_cons pe_int (pa_cons pe_int (pa_cons pe_int (pa_cons pe_int (pa_cons pe_int pa_nil)))))) (pe_op op_mod (pe_callTy call_int1 (by rfl) T.b_int (by decide +kernel) (pa_cons (pe_ix (ix_listK K rfl) (pv 0) pe_int (fun _ _ => rfl)) pa_nil)) pe_int) (fun _ _ => rfl)))
    (pss_cons (ps_set (i := 4) sc_law_draw.nd rfl (Or.inl rfl) (pe_op op_mod (pe_callTy call_int1 (by rfl) T.b_int (by decide +kernel) (pa_cons (pe_op op_pow (pe_op op_add (pe_op op_add (pe_ix (ix_listK K rfl) (pv 0) pe_int (fun _ _ => rfl)) (pe_op op_mul (pe_op op_mul pe_int (pe_ix (ix_listK K rfl) (pv 0) pe_int (fun _ _ => rfl))) (pe_ix (ix_listK K rfl) (pv 0) pe_int (fun _ _ => rfl)))) pe_int) pe_int) pa_nil)) (pv 3)))
    (pss_cons (ps_set (i := 4) sc_law_draw.nd rfl (Or.inl rfl) (pe_op op_mod (pe_callTy call_int1 (by rfl) T.b_int (by decide +kernel) (pa_cons (pe_op op_mul (pv 4) (pe_op op_add (pe_op op_mod (pe_callTy call_int1 (by rfl) T.b_int (by decide +kernel) (pa_cons (pv 4) pa_nil)) pe_int) (pe_op op_mul pe_int (pe_ix (ix_listK K rfl) (pv 0) pe_int (fun _ _ => rfl))))) pa_nil)) pe_int))
    (pss_one (ps_ret (pe_op op_mod (pe_callTy call_int1 (by rfl) T.b_int (by decide +kernel) (pa_cons (pe_op op_fdiv (pv 4) pe_int) pa_nil)) (pv 1))))))))), ?_⟩)
  · obtain ⟨p, many, n, rfl, _⟩ := h
    rfl
  obtain ⟨p, many, n, rfl, ⟨m0, m1⟩, hn, ⟨a, m, c, hp, ⟨a0, a1⟩, ⟨g0, g1⟩, ⟨c0, c1⟩⟩, k⟩ := h
  refine ⟨_, rfl, p, _, _, _, rfl, rfl, SqL.of hp, rfl, _, _, rfl, rfl, _, rfl, ite2 (fun ha => ?_) (fun ha => ?_)⟩
  · refine ⟨_, rfl, p, _, _, _, rfl, rfl, SqL.of hp, rfl, .inl ⟨_, rfl, _, rfl, _, _, rfl, rfl, m0, ?_⟩⟩
    refine ⟨_, rfl, p, _, _, _, rfl, rfl, SqL.of hp, rfl, _, rfl, _, _, rfl, rfl, wide_div (b := 10) m0 (by omega) (by decide) (by decide), _, rfl, p, _, _, _, rfl, rfl, hp, rfl, _, rfl, ?_⟩
    have d0 : 0 ≤ a / many := Int.ediv_nonneg a0 (by omega)
    have d1 : a / many ≤ a := Int.ediv_le_self _ a0
    exact k _ _ (Int.emod_nonneg _ (by omega)) (Int.emod_lt_of_pos _ m0) ⟨_, m, c, upd_same, ⟨d0, wide_le d0 d1 a1⟩, ⟨g0, g1⟩, c0, by omega⟩ (fun b o hb e => by rw [upd_ne hb]; exact e)
  · refine ⟨_, rfl, p, _, _, _, rfl, rfl, SqL.of hp, rfl, _, _, rfl, rfl, _, rfl, p, _, _, _, rfl, rfl, hp, rfl, ?_⟩
    refine ⟨by show 5 ≤ sizeLine; decide, fun l hl => ?_⟩
    have npl : p ≠ l := fun e => by rw [← e, upd_same] at hl; cases hl
    have hp2 : (upd (upd H p (.lst ([V.int a, V.int m, V.int c].set 2 (.int (c + 1))))) l (.lst [.int 2147483647, .int 2147483629, .int 2147483587, .int 2147483579, .int 2147483563])) p = some (.lst [.int a, .int m, .int (c + 1)]) := by
      rw [upd_ne npl, upd_same]; rfl
    obtain ⟨v, hv, v0, v1⟩ : ∃ v : Int, atI [V.int 2147483647, V.int 2147483629, V.int 2147483587, V.int 2147483579, V.int 2147483563] ((c + 1) % 5) = some (.int v) ∧ 2147483563 ≤ v ∧ v ≤ 2147483647 := by
      have h0 : (c + 1) % 5 = 0 ∨ (c + 1) % 5 = 1 ∨ (c + 1) % 5 = 2 ∨ (c + 1) % 5 = 3 ∨ (c + 1) % 5 = 4 := by omega
      rcases h0 with e | e | e | e | e <;> rw [e]
      · exact ⟨_, rfl, by decide, by decide⟩
      · exact ⟨_, rfl, by decide, by decide⟩
      · exact ⟨_, rfl, by decide, by decide⟩
      · exact ⟨_, rfl, by decide, by decide⟩
      · exact ⟨_, rfl, by decide, by decide⟩
    refine ⟨_, rfl, p, _, _, _, rfl, rfl, SqL.of hp2, rfl, .inl ⟨_, rfl, _, _, rfl, rfl, (show (0 : Int) < 5 by decide), l, _, _, _, rfl, rfl, SqL.of upd_same, hv, ?_⟩⟩
    have q0 : (c + 1) * (c + 1) ≤ 1000001 * 1000001 := Int.mul_le_mul (by omega) (by omega) (by omega) (by omega)
    have q1 : 0 ≤ (c + 1) * (c + 1) := Int.mul_nonneg (by omega) (by omega)
    have q2 : 99991 * (c + 1) * (c + 1) = 99991 * ((c + 1) * (c + 1)) := Int.mul_assoc _ _ _
    refine ⟨_, rfl, p, _, _, _, rfl, rfl, SqL.of hp2, rfl, _, rfl, p, _, _, _, rfl, rfl, SqL.of hp2, rfl, _, _, rfl, rfl, .inl ⟨by decide, by decide⟩, _, rfl, p, _, _, _, rfl, rfl, SqL.of hp2, rfl, _, _, rfl, rfl, .inl ⟨by omega, by omega⟩, _, _, rfl, rfl, _, _, rfl, rfl, ?_⟩
    refine ⟨_, _, rfl, rfl, ⟨by decide, by decide, by omega⟩, .inl ⟨_, rfl, _, rfl, _, _, rfl, rfl, by omega, ?_⟩⟩
    refine ⟨_, rfl, _, rfl, .inl ⟨_, rfl, _, _, rfl, rfl, (show (0 : Int) < 10007 by decide), _, rfl, p, _, _, _, rfl, rfl, SqL.of hp2, rfl, _, _, rfl, rfl, .inl ⟨by decide, by decide⟩, _, _, rfl, rfl, _, _, rfl, rfl, .inl ⟨?_, ?_⟩, .inl ⟨_, rfl, _, _, rfl, rfl, (show (0 : Int) < 2305843009213693907 by decide), ?_⟩⟩⟩
    · exact Int.lt_of_lt_of_le (show -2 ^ 64 < (0 : Int) by decide) (Int.emod_nonneg _ (by omega))
    · exact Int.lt_trans (Int.emod_lt_of_pos _ (by omega)) (by omega)
    · refine ⟨_, rfl, _, _, rfl, rfl, ⟨by decide, by decide⟩, .inl ⟨_, rfl, _, rfl, _, _, rfl, rfl, m0, ?_⟩⟩
      exact k _ _ (Int.emod_nonneg _ (by omega)) (Int.emod_lt_of_pos _ m0) ⟨a, m, c + 1, hp2, ⟨a0, a1⟩, ⟨g0, g1⟩, by omega, by omega⟩ (fun b o hb e => by
        have e1 : (upd H p (.lst ([V.int a, V.int m, V.int c].set 2 (.int (c + 1))))) b = some o := by rw [upd_ne hb]; exact e
        rw [upd_ne (ne_of_none e1 hl)]; exact e1)
abbrev s_law_any : Stmt := top 39
theorem sc_law_any : FnScope ["_law_pot_here", "_law_items"] ["_law_pot_here", "_law_items"] (defScope s_law_any) := ⟨rfl, rfl, rfl, by decide +kernel, rfl, by decide +kernel, by decide +kernel⟩
theorem ok_any {f fD : Addr} {fd fdD : FuncData} (F : Fun K "_law_any" "_law_any" s_law_any f fd) (T : Txt K mg)
    (c_law_draw : ∀ base, Ca P w K mg base CX0 "_law_draw" 1 ["_law_pot_here", "_law_many"] spDraw fD fdD) : FnOk P w K mg base CX0 2 f fd ["_law_pot_here", "_law_items"] spAny := by
  have c_law_draw := c_law_draw base
  refine F.ok sc_law_any (fun vs H Q E h => ?_) (fun cdv A outer s H vs Q E hr h => ⟨_, (pss_one (ps_ret (pe_ix (ix_listK K rfl) (pv 1) (pe_call c_law_draw.G (hr.mono (by first | decide | omega)) (by rfl) c_law_draw.g c_law_draw.k c_law_draw.B .nil pass0 (pa_cons (pv 0) (pa_cons (pe_callB (call_lenK K rfl) (by rfl) T.b_len (by decide +kernel) (pa_cons (pv 1) pa_nil)) pa_nil))) (fun _ _ => rfl)))), ?_⟩)
  · obtain ⟨_, _, _, _, rfl, _⟩ := h
    rfl
  obtain ⟨p, l, xs, n, rfl, hl, npl, ⟨x0, x1⟩, hn, hp, k⟩ := h
  refine ⟨_, rfl, _, rfl, _, rfl, _, _, rfl, .inl ⟨_, SqL.of hl, rfl⟩, p, _, n, rfl, ⟨by omega, by omega⟩, hn, hp, fun r H' r0 r1 pot but => ?_⟩
  have hr : r.toNat < xs.length := by omega
  refine ⟨l, xs, r, xs[r.toNat], rfl, rfl, SqL.of (but _ _ npl hl), ?_, k _ _ (List.getElem_mem hr) pot but⟩
  have := atI_nat (xs := xs) (j := r.toNat) (v := xs[r.toNat]) (by simp [hr])
  rw [Int.toNat_of_nonneg r0] at this
  exact this
abbrev s_law_pot : Stmt := top 40
theorem sc_law_pot : FnScope ["_law_script", "_law_k", "_law_drawn", "_law_own"] ["_law_script", "_law_k"] (defScope s_law_pot) := ⟨rfl, rfl, rfl, by decide +kernel, rfl, by decide +kernel, by decide +kernel⟩
theorem ten300 : ((10 : Int) ^ (60 : Int).toNat) ^ (5 : Int).toNat < 2 ^ 1000 := by decide +kernel
theorem ten300p : 0 < ((10 : Int) ^ (60 : Int).toNat) ^ (5 : Int).toNat := by decide +kernel
theorem pot_bound (x : Int) (b : Bool) : 0 ≤ x % (((10 : Int) ^ (60 : Int).toNat) ^ (5 : Int).toNat) * (if b = true then 1 else 0) ∧ (x % (((10 : Int) ^ (60 : Int).toNat) ^ (5 : Int).toNat) * (if b = true then 1 else 0)).natAbs < 2 ^ 1000 := by
  have h0 := Int.emod_nonneg x (Int.ne_of_gt ten300p)
  have h1 := Int.lt_trans (Int.emod_lt_of_pos x ten300p) ten300
  cases b with
  | false =>
    rw [if_neg Bool.false_ne_true, Int.mul_zero]
    exact ⟨Int.le_refl _, by decide +kernel⟩
  | true =>
    rw [if_pos rfl, Int.mul_one]
    refine ⟨h0, ?_⟩
    have := Int.natAbs_of_nonneg h0
    generalize x % (((10 : Int) ^ (60 : Int).toNat) ^ (5 : Int).toNat) = y at *
    have h2 : ((y.natAbs : Nat) : Int) < ((2 ^ 1000 : Nat) : Int) := by rw [this]; exact h1
    exact Int.ofNat_lt.mp h2
theorem pot_small (x : Int) (b : Bool) : CMulW (x % (((10 : Int) ^ (60 : Int).toNat) ^ (5 : Int).toNat)) (if b = true then 1 else 0) := by
  have h := (pot_bound x true).2
  rw [if_pos rfl, Int.mul_one] at h
  refine wide_mul (a := 1000) (b := 1) h ?_ (by decide) (by decide) (by decide)
  cases b <;> decide
theorem ok_pot {f : Addr} {fd : FuncData} (F : Fun K "_law_pot" "_law_pot" s_law_pot f fd) (T : Txt K mg) : FnOk P w K mg base CX0 1 f fd ["_law_script", "_law_k"] (spPot K) := by
  refine F.ok sc_law_pot (fun vs H Q E h => ?_) (fun cdv A outer s H vs Q E hr h => ⟨_, (pss_cons (ps_set (i := 2) sc_law_pot.nd rfl (Or.inl rfl) (pe_ifExp (pt_cmpR op_lt (pv 1) (pe_callB (call_lenK K rfl) (by rfl) T.b_len (by decide +kernel) (pa_cons (pv 0) pa_nil)) (nomark _)) (pe_ix (ix_listK K rfl) (pv 0) (pv 1) (fun _ _ => rfl)) (pe_op op_add (pe_op op_mul pe_int (pv 1)) pe_int)))
    (pss_cons (ps_set (i := 3) sc_law_pot.nd rfl (Or.inl rfl) (pe_op op_mulW (pe_op op_mod (pe_callTy call_int1 (by rfl) T.b_int (by decide +kernel) (pa_cons (pe_callB call_abs (by rfl) T.b_abs (by decide +kernel) (pa_cons (pv 2) pa_nil)) pa_nil)) (pe_op op_powW (pe_op op_pow pe_int pe_int) pe_int)) (pe_callTy call_int1 (by rfl) T.b_int (by decide +kernel) (pa_cons (pe_cmpR op_ge (pe_callB call_abs (by rfl) T.b_abs (by decide +kernel) (pa_cons (pv 2) pa_nil)) (pe_op op_pow pe_int pe_int) (nomark _)) pa_nil))))
    (pss_one (ps_ret (pe_lst (pa_cons (pv 3) (pa_cons (pe_op op_mod (pe_callTy call_int1 (by rfl) T.b_int (by decide +kernel) (pa_cons (pe_op op_add (pe_op op_add (pe_op op_mul (pe_op op_mod (pe_callTy call_int1 (by rfl) T.b_int (by decide +kernel) (pa_cons (pv 2) pa_nil)) pe_int) pe_int) (pe_op op_mul (pe_op op_mul pe_int (pv 1)) (pv 1))) pe_int) pa_nil)) pe_int) (pa_cons pe_int pa_nil)))))))), ?_⟩)
  · obtain ⟨_, _, _, rfl, _⟩ := h
    rfl
  obtain ⟨a, ns, k, rfl, hS, few, ⟨k0, k3⟩, kk⟩ := h
  have kk9 : k * k ≤ 9 := Int.mul_le_mul (show k ≤ 3 by omega) (show k ≤ 3 by omega) k0 (by decide)
  have kk0 : 0 ≤ k * k := Int.mul_nonneg k0 k0
  have kk1 : 9049 * k * k = 9049 * (k * k) := Int.mul_assoc _ _ _
  refine ⟨_, rfl, _, rfl, _, _, rfl, .inl ⟨_, hS, rfl⟩, _, _, rfl, rfl, _, rfl, ite2 (fun h1 => ?_) (fun h1 => ?_)⟩
  · have hk : k.toNat < ns.length := by
      have := of_decide_eq_true h1
      rw [List.length_map] at this
      omega
    have ea : atI (ns.map V.int) k = some (.int ns[k.toNat]) := by
      have := atI_nat (xs := ns.map V.int) (j := k.toNat) (v := .int ns[k.toNat]) (by simp [hk])
      rw [Int.toNat_of_nonneg k0] at this
      exact this
    refine ⟨_, rfl, _, rfl, a, _, k, _, rfl, rfl, hS, ea, ?_⟩
    generalize ns[k.toNat] = d
    refine ⟨_, rfl, _, rfl, .inl ⟨_, rfl, _, _, rfl, rfl, ⟨by decide, by decide, by decide⟩, _, _, rfl, rfl, ⟨by decide, by decide +kernel⟩, _, _, rfl, rfl, ten300p, _, rfl, _, rfl, _, _, rfl, rfl, ⟨by decide, by decide, by decide⟩, _, _, rfl, rfl, .inr ⟨_, rfl, _, _, rfl, rfl, pot_small _ _, ?_⟩⟩⟩
    refine ⟨_, rfl, _, rfl, .inl ⟨_, rfl, _, _, rfl, rfl, (show (0 : Int) < 2305843009213693951 by decide), _, _, rfl, rfl, .inr ⟨by decide, by decide⟩, _, rfl, _, _, rfl, rfl, .inl ⟨by decide, by decide⟩, _, rfl, _, _, rfl, rfl, .inl ⟨by omega, by omega⟩, _, _, rfl, rfl, _, _, rfl, rfl, .inl ⟨_, rfl, _, _, rfl, rfl, (show (0 : Int) < 2305843009213693921 by decide), by show 3 ≤ sizeLine; decide, fun p hp => ?_⟩⟩⟩
    exact kk p _ hp (Same.upd (Same.refl H) hp) ⟨_, _, _, upd_same, pot_bound _ _, ⟨Int.emod_nonneg _ (by decide), Int.emod_lt_of_pos _ (by decide)⟩, by decide, by decide⟩
  · refine ⟨_, rfl, _, _, rfl, rfl, .inl ⟨by decide, by decide⟩, _, _, rfl, rfl, ?_⟩
    generalize 19 * k + 5 = d
    refine ⟨_, rfl, _, rfl, .inl ⟨_, rfl, _, _, rfl, rfl, ⟨by decide, by decide, by decide⟩, _, _, rfl, rfl, ⟨by decide, by decide +kernel⟩, _, _, rfl, rfl, ten300p, _, rfl, _, rfl, _, _, rfl, rfl, ⟨by decide, by decide, by decide⟩, _, _, rfl, rfl, .inr ⟨_, rfl, _, _, rfl, rfl, pot_small _ _, ?_⟩⟩⟩
    refine ⟨_, rfl, _, rfl, .inl ⟨_, rfl, _, _, rfl, rfl, (show (0 : Int) < 2305843009213693951 by decide), _, _, rfl, rfl, .inr ⟨by decide, by decide⟩, _, rfl, _, _, rfl, rfl, .inl ⟨by decide, by decide⟩, _, rfl, _, _, rfl, rfl, .inl ⟨by omega, by omega⟩, _, _, rfl, rfl, _, _, rfl, rfl, .inl ⟨_, rfl, _, _, rfl, rfl, (show (0 : Int) < 2305843009213693921 by decide), by show 3 ≤ sizeLine; decide, fun p hp => ?_⟩⟩⟩
    exact kk p _ hp (Same.upd (Same.refl H) hp) ⟨_, _, _, upd_same, pot_bound _ _, ⟨Int.emod_nonneg _ (by decide), Int.emod_lt_of_pos _ (by decide)⟩, by decide, by decide⟩
end
end K09

set_option Elab.async false
set_option linter.all false
set_option maxRecDepth 100000
set_option maxHeartbeats 4000000
namespace K09
open PySem L2 Xby
def words8 : List Str := ["a", "b", "c", "ab", "abcdefgh", "x", "row", "z"]
def cells12 : List V := [.int 1, .int 2, .non, .int 1, .str "x", .int 2, .str "a", .int (-3), .int 0, .int 999, .int (-999), .str "abcdefgh"]
/-- words: some of the eight, each once -/
def spWords : Sp := fun vs H Q _ => ∃ (p : Addr) (many n : Nat), vs = [.ref p, .int many] ∧ many ≤ 8 ∧ n + many ≤ 1000000 ∧ Pot H p n ∧
  ∀ a H' (hs : List Str), hs.length = many → hs.Nodup → (∀ h ∈ hs, h ∈ words8) → H' a = some (.tup (hs.map V.str)) → Pot H' p (n + many) → But p H H' → Q (.ref a) H'
def spACell : Sp := fun vs H Q _ => ∃ (p : Addr) (n : Nat), vs = [.ref p] ∧ n + 1 ≤ 1000000 ∧ Pot H p n ∧ ∀ v H', v ∈ cells12 → Pot H' p (n + 1) → But p H H' → Q v H'
/-- rows: tuples of cells, of one length -/
inductive Rows (H : Hp) (wd : Nat) : List V → List (List V) → Prop
  | nil : Rows H wd [] []
  | cons {a : Addr} {r : List V} {vs : List V} {rs : List (List V)} : H a = some (.tup r) → r.length = wd → (∀ v ∈ r, v ∈ cells12) → Rows H wd vs rs → Rows H wd (.ref a :: vs) (r :: rs)
def spRows : Sp := fun vs H Q _ => ∃ (p : Addr) (wd many n : Nat), vs = [.ref p, .int wd, .int many] ∧ wd ≤ 3 ∧ many ≤ 7 ∧ n + 21 ≤ 1000000 ∧ Pot H p n ∧
  ∀ a H' (xs : List V) (rs : List (List V)), rs.length = many → H' a = some (.tup xs) → Rows H' wd xs rs → Pot H' p (n + 21) → But p H H' → Q (.ref a) H'
theorem Rows.len {H : Hp} {wd : Nat} {xs : List V} {rs : List (List V)} (h : Rows H wd xs rs) : xs.length = rs.length := by
  induction h with
  | nil => rfl
  | cons _ _ _ _ ih => simp [ih]
theorem Rows.butL {H H' : Hp} {wd : Nat} {p : Addr} {xs ys : List V} {rs : List (List V)} (h : Rows H wd xs rs) (hp : H p = some (.lst ys)) (b : But p H H') : Rows H' wd xs rs := by
  induction h with
  | nil => exact .nil
  | cons e l m _ ih =>
    refine .cons (b _ _ ?_ e) l m ih
    rintro rfl
    rw [e] at hp
    cases hp
theorem Rows.but {H H' : Hp} {wd n : Nat} {p : Addr} {xs : List V} {rs : List (List V)} (h : Rows H wd xs rs) (pot : Pot H p n) (b : But p H H') : Rows H' wd xs rs := by
  obtain ⟨_, _, _, q, _⟩ := pot
  exact h.butL q b
theorem erase_map {α β : Type} (f : α → β) : ∀ (l : List α) (i : Nat), (l.map f).eraseIdx i = (l.eraseIdx i).map f
  | [], _ => rfl
  | _ :: _, 0 => rfl
  | x :: xs, i + 1 => by
    show f x :: (xs.map f).eraseIdx i = f x :: (xs.eraseIdx i).map f
    rw [erase_map f xs i]
theorem erase_perm {α : Type} : ∀ (l : List α) (i : Nat) (h : i < l.length), (l[i] :: l.eraseIdx i).Perm l
  | x :: xs, 0, _ => List.Perm.refl _
  | x :: xs, i + 1, h => by
    have h' : i < xs.length := by simpa using h
    exact (List.Perm.swap x xs[i] (xs.eraseIdx i)).trans ((erase_perm xs i h').cons x)
theorem Rows.same {H H' : Hp} {wd : Nat} {xs : List V} {rs : List (List V)} (h : Rows H wd xs rs) (s : Same H H') : Rows H' wd xs rs := by
  induction h with
  | nil => exact .nil
  | cons e l m _ ih => exact .cons (s _ _ e) l m ih
theorem Rows.snoc {H : Hp} {wd : Nat} {a : Addr} {r xs : List V} {rs : List (List V)} (h : Rows H wd xs rs) (e : H a = some (.tup r)) (l : r.length = wd) (m : ∀ v ∈ r, v ∈ cells12) : Rows H wd (xs ++ [.ref a]) (rs ++ [r]) := by
  induction h with
  | nil => exact .cons e l m .nil
  | cons e' l' m' _ ih => exact .cons e' l' m' ih
theorem tupBut {H H' : Hp} {n : Nat} {p a : Addr} {xs : List V} (e : H a = some (.tup xs)) (pot : Pot H p n) (b : But p H H') : H' a = some (.tup xs) := by
  refine b _ _ ?_ e
  rintro rfl
  obtain ⟨_, _, _, q, _⟩ := pot
  rw [e] at q
  cases q
section
variable {P : Program} {w : World} {K : PySem.W.Frag} {mg : Str → Option Value} {base : Heap}
abbrev s_law_words : Stmt := top 41
theorem sc_law_words : FnScope ["_law_pot_here", "_law_many", "_law_some", "_law_found", "_law_turn", "_law_place"] ["_law_pot_here", "_law_many"] (defScope s_law_words) := ⟨rfl, rfl, rfl, by decide +kernel, rfl, by decide +kernel, by decide +kernel⟩
theorem ok_words {f fD : Addr} {fd fdD : FuncData} (F : Fun K "_law_words" "_law_words" s_law_words f fd) (T : Txt K mg)
    (c_law_draw : ∀ base, Ca P w K mg base CX0 "_law_draw" 1 ["_law_pot_here", "_law_many"] spDraw fD fdD) : FnOk P w K mg base CX0 2 f fd ["_law_pot_here", "_law_many"] spWords := by
  have c_law_draw := c_law_draw base
  refine F.ok sc_law_words (fun vs H Q E h => ?_) (fun cdv A outer s H vs Q E hr h => ⟨_, (pss_cons (ps_par (i := 2) (j := 3) (by rfl) sc_law_words.nd rfl rfl (by decide) rfl rfl (pa_cons (pe_lst (pa_cons pe_str (pa_cons pe_str (pa_cons pe_str (pa_cons pe_str (pa_cons pe_str (pa_cons pe_str (pa_cons pe_str (pa_cons pe_str pa_nil))))))))) (pa_cons (pe_lst pa_nil) pa_nil)) (by rfl))
    (pss_cons (ps_for PassesOwn.never rfl (pi_range1 (by rfl) T.b_range (pa_cons (pv 1) pa_nil)) (pg_name (i := 4) sc_law_words.nd rfl (Or.inl rfl)) (pss_cons (ps_set (i := 5) sc_law_words.nd rfl (Or.inl rfl) (pe_call c_law_draw.G (hr.mono (by first | decide | omega)) (by rfl) c_law_draw.g c_law_draw.k c_law_draw.B .nil pass0 (pa_cons (pv 0) (pa_cons (pe_callB (call_lenK K rfl) (by rfl) T.b_len (by decide +kernel) (pa_cons (pv 2) pa_nil)) pa_nil))))
    (pss_one (ps_expr (pe_bm PySem.F.plainAttrs_list PySem.F.slot_list_append PySem.F.type_list_append mt_append (pv 3) (pa_cons (pe_bm PySem.F.plainAttrs_list PySem.F.slot_list_pop PySem.F.type_list_pop mt_popAt (pv 2) (pa_cons (pv 5) pa_nil)) pa_nil))))))
    (pss_one (ps_ret (pe_callTy (call_tupleK K rfl) (by rfl) T.b_tuple (by decide +kernel) (pa_cons (pv 3) pa_nil)))))), ?_⟩)
  · obtain ⟨_, _, _, rfl, _⟩ := h
    rfl
  obtain ⟨p, many, n, rfl, hm, hn, pot, k⟩ := h
  refine ⟨by show 8 ≤ sizeLine; decide, fun A0 nA => ⟨by show 0 ≤ sizeLine; decide, fun B0 nB => ⟨_, _, rfl, ?_⟩⟩⟩
  have AB : A0 ≠ B0 := fun e => by rw [← e, upd_same] at nB; cases nB
  have nB0 : H B0 = none := by rw [upd_ne AB.symm] at nB; exact nB
  have Ap : A0 ≠ p := (pot.ne nA).symm
  have Bp : B0 ≠ p := (pot.ne nB0).symm
  refine ⟨_, rfl, _, rfl, by omega, by omega, for_range (lo := 0) (n := (many : Int).toNat) (fun i σ H' => ∃ (o1 o2 : Option V) (ws fs : List Str), σ = [some (.ref p), some (.int many), some (.ref A0), some (.ref B0), o1, o2] ∧
    H' A0 = some (.lst (ws.map V.str)) ∧ H' B0 = some (.lst (fs.map V.str)) ∧ fs.length = i ∧ (fs ++ ws).Perm words8 ∧ Pot H' p (n + i) ∧ But p H H') ?_ ?_ ?_⟩
  · refine ⟨none, none, words8, [], rfl, ?_, upd_same, rfl, List.Perm.refl _, (pot.new nA).new nB, ((But.of (Same.one nA)).new nB)⟩
    rw [upd_ne AB]
    exact upd_same
  · rintro i σ H1 hi ⟨o1, o2, ws, fs, rfl, hA, hB, lf, pm, pot1, but1⟩
    have lw : fs.length + ws.length = 8 := by
      have := pm.length_eq
      rw [List.length_append] at this
      exact this
    refine ⟨_, rfl, _, rfl, _, _, rfl, .inl ⟨_, SqL.of hA, rfl⟩, p, _, n + i, rfl, ⟨by rw [List.length_map]; omega, by rw [List.length_map]; omega⟩, by omega, pot1, fun r H2 r0 r1 pot2 but2 => ?_⟩
    rw [List.length_map] at r1
    have hA2 := but2 A0 _ Ap hA
    have hB2 := but2 B0 _ Bp hB
    have hr : r.toNat < ws.length := by omega
    have gy : (ws.map V.str)[r.toNat]? = some (.str ws[r.toNat]) := by simp [hr]
    have gi : seqIndex? r (ws.map V.str).length = some r.toNat := by
      unfold seqIndex?
      rw [List.length_map]
      simp only [Int.not_lt.mpr r0, if_false]
      rw [if_pos (by simp; omega)]
    have B2 : (upd H2 A0 (.lst ((ws.map V.str).eraseIdx r.toNat))) B0 = some (.lst (fs.map V.str)) := by rw [upd_ne AB.symm]; exact hB2
    refine ⟨_, rfl, .inl ⟨rfl, _, SqL.of hB2⟩, _, rfl, .inl ⟨rfl, _, SqL.of hA2⟩, _, rfl, A0, _, r, r.toNat, _, rfl, rfl, hA2, by omega, by omega, gi, gy, B0, _, _, rfl, rfl, B2, ?_, ?_⟩
    · rw [List.length_map]
      exact Nat.lt_of_le_of_lt (show fs.length ≤ 8 by omega) (by decide)
    · refine ⟨_, _, ws.eraseIdx r.toNat, fs ++ [ws[r.toNat]], rfl, ?_, ?_, by simp [lf], ?_, ?_, ?_⟩
      · rw [upd_ne AB, upd_same]
        have : (ws.map V.str).eraseIdx r.toNat = (ws.eraseIdx r.toNat).map V.str := erase_map _ _ _
        rw [this]
      · rw [upd_same, List.map_append]
        rfl
      · refine List.Perm.trans ?_ pm
        rw [List.append_assoc]
        exact List.Perm.append_left fs (erase_perm ws r.toNat hr)
      · exact ((pot2.upd Ap.symm).upd Bp.symm).more (by omega)
      · intro c u ne e
        have e2 := but2 c u ne (but1 c u ne e)
        rw [upd_ne (ne_of_none e nB0), upd_ne (ne_of_none e nA)]
        exact e2
  · rintro σ H1 ⟨o1, o2, ws, fs, rfl, hA, hB, lf, pm, pot1, but1⟩
    have nd : (fs ++ ws).Nodup := pm.nodup_iff.mpr (by decide +kernel)
    refine ⟨_, rfl, B0, _, rfl, .inl ⟨SqL.of hB, fun l nl => k l _ fs (by simpa using lf) (List.nodup_append.mp nd).1 (fun h hh => pm.subset (List.mem_append_left _ hh)) upd_same ((pot1.new nl).more (by omega)) (but1.new nl)⟩⟩
abbrev s_law_cell : Stmt := top 42
theorem sc_law_cell : FnScope ["_law_pot_here"] ["_law_pot_here"] (defScope s_law_cell) := ⟨rfl, rfl, rfl, by decide +kernel, rfl, by decide +kernel, by decide +kernel⟩
theorem ok_acell {f fA : Addr} {fd fdA : FuncData} (F : Fun K "_law_cell" "_law_cell" s_law_cell f fd) (T : Txt K mg)
    (c_law_any : ∀ base, Ca P w K mg base CX0 "_law_any" 2 ["_law_pot_here", "_law_items"] spAny fA fdA) : FnOk P w K mg base CX0 3 f fd ["_law_pot_here"] spACell := by
  have c_law_any := c_law_any base
  refine F.ok sc_law_cell (fun vs H Q E h => ?_) (fun cdv A outer s H vs Q E hr h => ⟨_, (pss_one (ps_ret (pe_call c_law_any.G (hr.mono (by first | decide | omega)) (by rfl) c_law_any.g c_law_any.k c_law_any.B .nil pass0 (pa_cons (pv 0) (pa_cons (pe_lst (pa_cons pe_int (pa_cons pe_int (pa_cons pe_non (pa_cons pe_int (pa_cons pe_str (pa_cons pe_int (pa_cons pe_str (pa_cons (pe_un un_neg pe_int) (pa_cons pe_int (pa_cons pe_int (pa_cons (pe_un un_neg pe_int) (pa_cons pe_str pa_nil))))))))))))) pa_nil))))), ?_⟩)
  · obtain ⟨_, _, rfl, _⟩ := h
    rfl
  obtain ⟨p, n, rfl, hn, pot, k⟩ := h
  refine ⟨_, rfl, _, rfl, _, rfl, by show 12 ≤ sizeLine; decide, fun l nl => ⟨p, l, _, n, rfl, upd_same, (pot.ne nl).symm, ⟨by decide, by decide⟩, by omega, pot.new nl, fun x H' hx pot' but' => ?_⟩⟩
  exact k x H' hx pot' ((But.of (Same.one nl)).trans but')
abbrev s_law_rows : Stmt := top 43
theorem sc_law_rows : FnScope ["_law_pot_here", "_law_wide", "_law_many", "_law_found", "_law_line", "_law_turn"] ["_law_pot_here", "_law_wide", "_law_many"] (defScope s_law_rows) := ⟨rfl, rfl, rfl, by decide +kernel, rfl, by decide +kernel, by decide +kernel⟩
theorem ok_rows {f fC : Addr} {fd fdC : FuncData} (F : Fun K "_law_rows" "_law_rows" s_law_rows f fd) (T : Txt K mg)
    (c_law_cell : ∀ base, Ca P w K mg base CX0 "_law_cell" 3 ["_law_pot_here"] spACell fC fdC) : FnOk P w K mg base CX0 4 f fd ["_law_pot_here", "_law_wide", "_law_many"] spRows := by
  have c_law_cell := c_law_cell base
  refine F.ok sc_law_rows (fun vs H Q E h => ?_) (fun cdv A outer s H vs Q E hr h => ⟨_, (pss_cons (ps_set (i := 3) sc_law_rows.nd rfl (Or.inl rfl) (pe_lst pa_nil))
    (pss_cons (ps_for PassesOwn.never rfl (pi_range1 (by rfl) T.b_range (pa_cons (pv 2) pa_nil)) (pg_name (i := 4) sc_law_rows.nd rfl (Or.inl rfl)) (pss_one (ps_expr (pe_bm PySem.F.plainAttrs_list PySem.F.slot_list_append PySem.F.type_list_append mt_append (pv 3) (pa_cons (pe_callTy (call_tupleK K rfl) (by rfl) T.b_tuple (by decide +kernel) (pa_cons (pe_lc (own := [("_law_turn", 5)]) (g := gName 5) (tt := tYes) rfl sc_law_rows.nd (pi_range1 (by rfl) T.b_range (pa_cons (pv 1) pa_nil)) (blkOk_by (N := ["_law_pot_here", "_law_wide", "_law_many", "_law_found", "_law_line", "_law_turn"]) (sc := defScope s_law_rows) (by decide +kernel)) (fun _ _ _ _ _ => (pg_name (i := 5) sc_law_rows.nd rfl (Or.inl rfl))) (fun _ _ _ _ _ => pts_nil) (fun _ _ _ _ _ => (pe_call c_law_cell.G (hr.mono (by first | decide | omega)) (by rfl) c_law_cell.g c_law_cell.k c_law_cell.B .nil pass0 (pa_cons (pv 0) pa_nil)))) pa_nil)) pa_nil)))))
    (pss_one (ps_ret (pe_callTy (call_tupleK K rfl) (by rfl) T.b_tuple (by decide +kernel) (pa_cons (pv 3) pa_nil)))))), ?_⟩)
  · obtain ⟨_, _, _, _, rfl, _⟩ := h
    rfl
  obtain ⟨p, wd, many, n, rfl, hw, hm, hn, pot, k⟩ := h
  refine ⟨by show 0 ≤ sizeLine; decide, fun B0 nB => ?_⟩
  have Bp : B0 ≠ p := (pot.ne nB).symm
  refine ⟨_, rfl, _, rfl, by omega, by omega, for_range (lo := 0) (n := (many : Int).toNat) (fun i σ H' => ∃ (o1 o2 : Option V) (xs : List V) (rs : List (List V)), σ = [some (.ref p), some (.int wd), some (.int many), some (.ref B0), o1, o2] ∧
    H' B0 = some (.lst xs) ∧ Rows H' wd xs rs ∧ rs.length = i ∧ Pot H' p (n + 3 * i) ∧ But p H H') ?_ ?_ ?_⟩
  · exact ⟨none, none, [], [], rfl, upd_same, .nil, rfl, pot.new nB, But.of (Same.one nB)⟩
  · rintro i σ H1 hi ⟨o1, o2, xs, rs, rfl, hB, hR, lr, pot1, but1⟩
    refine ⟨_, rfl, .inl ⟨rfl, _, SqL.of hB⟩, ?_⟩
    refine ⟨_, rfl, _, rfl, by omega, by omega, fun D nD => lc_range (lo := 0) (n := (wd : Int).toNat) (fun j H' => ∃ acc : List V, H' D = some (.lst acc) ∧ acc.length = j ∧ (∀ v ∈ acc, v ∈ cells12) ∧ Pot H' p (n + 3 * i + j) ∧ But p H1 H') ?_ ?_ ?_⟩
    · exact ⟨[], upd_same, rfl, by simp, pot1.new nD, But.of (Same.one nD)⟩
    · rintro j H2 hj ⟨acc, hD, la, hc, pot2, but2⟩
      have Dp : D ≠ p := (pot1.ne nD).symm
      refine ⟨rfl, _, rfl, p, n + 3 * i + j, rfl, by omega, pot2, fun v H3 hv pot3 but3 => ⟨acc, but3 D _ Dp hD, ?_, acc ++ [v], ?_, by simp [la], ?_, ?_, ?_⟩⟩
      · rw [la]
        exact Nat.lt_of_lt_of_le hj (show (wd : Int).toNat ≤ sizeLine by have : sizeLine = 16777216 := sizeLine_eq; omega)
      · rw [upd_same]
      · intro u hu
        rcases List.mem_append.mp hu with hu | hu
        · exact hc u hu
        · obtain rfl : u = v := by simpa using hu
          exact hv
      · exact (pot3.more (by omega)).upd Dp.symm
      · exact (but2.trans but3).updN nD
    · rintro H2 ⟨acc, hD, la, hc, pot2, but2⟩
      refine ⟨D, acc, rfl, .inl ⟨SqL.of hD, fun l nl => ?_⟩⟩
      have hB2 : (upd H2 l (.tup acc)) B0 = some (.lst xs) := Same.one nl _ _ (but2 B0 _ Bp hB)
      have hR2 : Rows (upd H2 l (.tup acc)) wd xs rs := (hR.but pot1 but2).same (Same.one nl)
      have lB : B0 ≠ l := ne_of_none (but2 B0 _ Bp hB) nl
      refine ⟨B0, _, _, rfl, rfl, hB2, ?_, _, _, xs ++ [.ref l], rs ++ [acc], rfl, upd_same, ?_, by simp [lr], ?_, ?_⟩
      · rw [hR.len, lr]
        exact Nat.lt_of_lt_of_le hi (show (many : Int).toNat ≤ sizeLine by have : sizeLine = 16777216 := sizeLine_eq; omega)
      · refine Rows.snoc (hR2.butL hB2 (But.upd (But.refl _ _))) ?_ (by omega) hc
        rw [upd_ne lB.symm]
        exact upd_same
      · exact ((pot2.new nl).upd Bp.symm).more (by omega)
      · exact ((but1.trans but2).new nl).updN nB
  · rintro σ H1 ⟨o1, o2, xs, rs, rfl, hB, hR, lr, pot1, but1⟩
    refine ⟨_, rfl, B0, _, rfl, .inl ⟨SqL.of hB, fun l nl => k l _ xs rs (by omega) upd_same (hR.same (Same.one nl)) ((pot1.new nl).more (by omega)) (but1.new nl)⟩⟩
end
theorem cells_cell : ∀ v ∈ cells12, cellV v = true := by decide +kernel
theorem words_word : ∀ h ∈ words8, wordS h = true := by decide +kernel
theorem Rows.toK {K : PySem.W.Frag} {H : Hp} {wd : Nat} {xs : List V} {rs : List (List V)} (h : Rows H wd xs rs) : RowsK K H wd xs rs := by
  induction h with
  | nil => exact .nil
  | cons e l m _ ih => exact .cons (SqT.of e) l (fun v hv => cells_cell v (m v hv)) ih
def spTable (K : PySem.W.Frag) (C : Addr) : Sp := fun vs H Q _ => ∃ (p : Addr) (wide tall n : Nat), vs = [.ref p, .int wide, .int tall] ∧ (1 ≤ wide ∧ wide ≤ 3) ∧ tall ≤ 6 ∧ n + 40 ≤ 1000000 ∧ Pot H p n ∧
  ∀ a H' hs rs, IsTab K C H' a hs rs → hs.length ≤ wide → rs.length ≤ tall → Pot H' p (n + 40) → But p H H' → Q (.ref a) H'
section
variable {P : Program} {w : World} {K : PySem.W.Frag} {mg : Str → Option Value} {base : Heap}
abbrev s_law_table : Stmt := top 44
theorem sc_law_table : FnScope ["_law_pot_here", "_law_wide", "_law_tall", "_law_heads"] ["_law_pot_here", "_law_wide", "_law_tall"] (defScope s_law_table) := ⟨rfl, rfl, rfl, by decide +kernel, rfl, by decide +kernel, by decide +kernel⟩
theorem ok_table {f fD fW fR fI : Addr} {fd fdD fdW fdR fdI : FuncData} (F : Fun K "_law_table" "_law_table" s_law_table f fd) (T : Txt K mg) (M : Mk K T.C fI)
    (c_law_draw : ∀ base, Ca P w K mg base CX0 "_law_draw" 1 ["_law_pot_here", "_law_many"] spDraw fD fdD) (c_law_words : ∀ base, Ca P w K mg base CX0 "_law_words" 2 ["_law_pot_here", "_law_many"] spWords fW fdW) (c_law_rows : ∀ base, Ca P w K mg base CX0 "_law_rows" 4 ["_law_pot_here", "_law_wide", "_law_many"] spRows fR fdR)
    (G : ∀ base, FnOk P w K mg base (L2.CX P w) 5 fI fdI ["self", "columns", "rows"] (spInit K T.C T.EK T.ER T.EW T.EM)) (hb : Binds K fdI ["self", "columns", "rows"] []) : FnOk P w K mg base CX0 7 f fd ["_law_pot_here", "_law_wide", "_law_tall"] (spTable K T.C) := by
  have c_law_draw := c_law_draw base
  have c_law_words := c_law_words base
  have c_law_rows := c_law_rows base
  have G := G base
  refine F.ok sc_law_table (fun vs H Q E h => ?_) (fun cdv A outer s H vs Q E hr h => ⟨_, (pss_cons (ps_set (i := 3) sc_law_table.nd rfl (Or.inl rfl) (pe_call c_law_words.G (hr.mono (by first | decide | omega)) (by rfl) c_law_words.g c_law_words.k c_law_words.B .nil pass0 (pa_cons (pv 0) (pa_cons (pe_op op_add pe_int (pe_call c_law_draw.G (hr.mono (by first | decide | omega)) (by rfl) c_law_draw.g c_law_draw.k c_law_draw.B .nil pass0 (pa_cons (pv 0) (pa_cons (pv 1) pa_nil)))) pa_nil))))
    (pss_one (ps_ret (pe_make M G (hr.mono (by decide)) (by rfl) T.g_Table hb .nil passL (pa_cons (pv 3) (pa_cons (pe_call c_law_rows.G (hr.mono (by first | decide | omega)) (by rfl) c_law_rows.g c_law_rows.k c_law_rows.B .nil pass0 (pa_cons (pv 0) (pa_cons (pe_callB (call_lenK K rfl) (by rfl) T.b_len (by decide +kernel) (pa_cons (pv 3) pa_nil)) (pa_cons (pe_call c_law_draw.G (hr.mono (by first | decide | omega)) (by rfl) c_law_draw.g c_law_draw.k c_law_draw.B .nil pass0 (pa_cons (pv 0) (pa_cons (pe_op op_add (pv 2) pe_int) pa_nil))) pa_nil)))) pa_nil)))))), ?_⟩)
  · obtain ⟨_, _, _, _, rfl, _⟩ := h
    rfl
  obtain ⟨p, wide, tall, n, rfl, ⟨w1, w3⟩, ht, hn, pot, kk⟩ := h
  refine ⟨_, rfl, _, rfl, _, rfl, p, wide, n, rfl, ⟨by omega, by omega⟩, by omega, pot, fun d H1 d0 d3 pot1 but1 => ?_⟩
  obtain ⟨m', rfl⟩ := Int.eq_ofNat_of_zero_le d0
  refine ⟨_, _, rfl, rfl, p, 1 + m', n + 1, by simp, by omega, by omega, pot1, fun ah H2 hs lh nd sub hh pot2 but2 => ?_⟩
  refine ⟨_, rfl, _, rfl, _, rfl, _, _, rfl, .inr ⟨_, SqT.of hh, rfl⟩, _, rfl, _, rfl, _, _, rfl, rfl, p, tall + 1, _, rfl, ⟨by omega, by omega⟩, by omega, pot2, fun t H3 t0 t6 pot3 but3 => ?_⟩
  obtain ⟨m2, rfl⟩ := Int.eq_ofNat_of_zero_le t0
  have hh3 := tupBut hh pot2 but3
  refine ⟨p, (hs.map V.str).length, m2, _, rfl, by rw [List.length_map]; omega, by omega, by omega, pot3, fun ar H4 xs rs lr hx rows pot4 but4 => ?_⟩
  have hh4 := tupBut hh3 pot3 but4
  rw [List.length_map] at rows
  have rowsK : RowsK K H4 hs.length xs rs := rows.toK
  have hw : ∀ h ∈ hs, wordS h = true := fun h hh => words_word h (sub h hh)
  refine fun x dx nx ndx ne => ?_
  have s5 : Same H4 (upd (upd H4 dx (.own x)) x (.ins T.C dx [])) := Same.upd (Same.one ndx) (by rw [upd_ne ne.symm]; exact nx)
  obtain ⟨xs', two, none⟩ := tab_two (K := K) (H := upd (upd H4 dx (.own x)) x (.ins T.C dx [])) (SqT.of (s5 _ _ hh4)) (SqT.of (s5 _ _ hx)) (rowsK.same s5) (by omega) (by omega) hw nd (by omega)
  refine ⟨x, dx, _, _, _, _, xs', rfl, upd_same, two, raised_none none, fun _ H6 bt hx6 => ⟨rfl, ?_⟩⟩
  have s6 : Same H4 H6 := fun b o e => bt b o (ne_of_none e nx) (s5 b o e)
  refine kk x H6 hs rs ⟨dx, ah, ar, xs, hx6, SqT.of (s6 _ _ hh4), SqT.of (s6 _ _ hx), rowsK.same s6, by omega, by omega, hw, nd, by omega⟩ (by omega) (by omega) ((pot4.same s6).more (by omega)) ((((but1.trans but2).trans but3).trans but4).same s6)
end
end K09

set_option Elab.async false
set_option linter.all false
set_option maxRecDepth 100000
set_option maxHeartbeats 4000000
namespace K09
open PySem L2 Xby
def spPlace (K : PySem.W.Frag) : Sp := fun vs H Q _ => ∃ (v : V) (d : PyData) (m : Nat), vs = [v, .int m] ∧ Dq K H v d ∧ Q (.bl (okV 0 ((m : Int) - 1) v)) H
def spPair (K : PySem.W.Frag) : Sp := fun vs H Q _ => ∃ (v : V) (d : PyData) (m o : Nat), vs = [v, .int m, .int o] ∧ Dq K H v d ∧ Q (.bl (pairD m o d)) H
def spPairs (K : PySem.W.Frag) : Sp := fun vs H Q _ => ∃ (v : V) (d : PyData) (m o : Nat), vs = [v, .int m, .int o] ∧ Dq K H v d ∧ Few d ∧ ∀ H', Same H H' → Q (.bl (pairsD m o d)) H'
def spIsAl (K : PySem.W.Frag) (C : Addr) : Sp := fun vs H Q _ => ∃ (one other : Addr) (v : V) (d : PyData) (hs ks : List Str) (rs qs : List (List V)), vs = [.ref one, .ref other, v] ∧ IsTab K C H one hs rs ∧ IsTab K C H other ks qs ∧ Dq K H v d ∧ Few1 d ∧
  ∀ H', Same H H' → Q (.bl (laidD hs.length ks.length rs.length qs.length d)) H'
section
variable {P : Program} {w : World} {K : PySem.W.Frag} {mg : Str → Option Value} {base : Heap}
abbrev s_is_place : Stmt := top 11
theorem sc_is_place : FnScope ["value", "many"] ["value", "many"] (defScope s_is_place) := ⟨rfl, rfl, rfl, by decide +kernel, rfl, by decide +kernel, by decide +kernel⟩
theorem ok_place {f fI : Addr} {fd fdI : FuncData} (F : Fun K "is_place" "is_place" s_is_place f fd) (T : Txt K mg)
    (c_is_integer_within : ∀ base, Ca P w K mg base CX0 "is_integer_within" 2 ["value", "least", "most"] (spWithin K) fI fdI) : FnOk P w K mg base CX0 3 f fd ["value", "many"] (spPlace K) := by
  have c_is_integer_within := c_is_integer_within base
  refine F.ok sc_is_place (fun vs H Q E h => ?_) (fun cdv A outer s H vs Q E hr h => ⟨_, (pss_one (ps_ret (pe_call c_is_integer_within.G (hr.mono (by first | decide | omega)) (by rfl) c_is_integer_within.g c_is_integer_within.k c_is_integer_within.B .nil pass0 (pa_cons (pv 0) (pa_cons pe_int (pa_cons (pe_op op_sub (pv 1) pe_int) pa_nil)))))), ?_⟩)
  · obtain ⟨_, _, _, rfl, _⟩ := h
    rfl
  obtain ⟨v, d, m, rfl, hd, k⟩ := h
  exact ⟨_, rfl, _, rfl, _, _, rfl, rfl, v, d, 0, (m : Int) - 1, rfl, hd, k⟩
abbrev s_is_pair : Stmt := top 16
theorem sc_is_pair : FnScope ["value", "many", "many_other"] ["value", "many", "many_other"] (defScope s_is_pair) := ⟨rfl, rfl, rfl, by decide +kernel, rfl, by decide +kernel, by decide +kernel⟩
theorem ok_pair {f fP : Addr} {fd fdP : FuncData} (F : Fun K "is_pair" "is_pair" s_is_pair f fd) (T : Txt K mg)
    (c_is_place : ∀ base, Ca P w K mg base CX0 "is_place" 3 ["value", "many"] (spPlace K) fP fdP) : FnOk P w K mg base CX0 4 f fd ["value", "many", "many_other"] (spPair K) := by
  have c_is_place := c_is_place base
  refine F.ok sc_is_pair (fun vs H Q E h => ?_) (fun cdv A outer s H vs Q E hr h => ⟨_, (pss_one (ps_ret (pe_and (pe_callB (call_isiK K rfl) (by rfl) T.b_isinstance (by decide +kernel) (pa_cons (pv 0) (pa_cons (pe_bltn (v := .ty "tuple") (by rfl) T.b_tuple (by decide +kernel) rfl) pa_nil))) (pe_and (pe_cmpR op_eq (pe_callB (call_lenK K rfl) (by rfl) T.b_len (by decide +kernel) (pa_cons (pv 0) pa_nil)) pe_int (nomark _)) (pe_and (pe_call c_is_place.G (hr.mono (by first | decide | omega)) (by rfl) c_is_place.g c_is_place.k c_is_place.B .nil pass0 (pa_cons (pe_ix (ix_tupK K rfl) (pv 0) pe_int (fun _ _ => rfl)) (pa_cons (pv 1) pa_nil))) (pe_one (pe_call c_is_place.G (hr.mono (by first | decide | omega)) (by rfl) c_is_place.g c_is_place.k c_is_place.B .nil pass0 (pa_cons (pe_ix (ix_tupK K rfl) (pv 0) pe_int (fun _ _ => rfl)) (pa_cons (pv 2) pa_nil))))))))), ?_⟩)
  · obtain ⟨_, _, _, _, rfl, _⟩ := h
    rfl
  obtain ⟨v, d, m, o, rfl, hd, k⟩ := h
  rcases hd.isTup with ⟨a, xs, ds, rfl, rfl, hs, ha⟩ | ⟨T', ty, kt, no⟩
  · have len := ha.len
    refine ⟨_, rfl, _, _, _, _, _, rfl, .ty _, tyTup hs, kit_ty kit_tt, _, rfl, ?_⟩
    refine ⟨_, rfl, _, _, rfl, .inr ⟨xs, hs, rfl⟩, rfl, _, rfl, ite2 (fun h2 => ?_) (fun h2 => ?_)⟩
    · have two : xs.length = 2 := by
        have := V.int.inj (of_decide_eq_true h2)
        omega
      obtain ⟨x0, x1, rfl⟩ : ∃ x0 x1, xs = [x0, x1] := by
        match xs, two with
        | [x0, x1], _ => exact ⟨x0, x1, rfl⟩
      cases ha with
      | @cons _ _ d0 _ q0 r0 =>
        cases r0 with
        | @cons _ _ d1 _ q1 r1 =>
          cases r1
          rw [pairD_two] at k
          rw [← q0.okV, ← q1.okV] at k
          refine ⟨_, rfl, a, _, 0, x0, rfl, rfl, hs, rfl, _, rfl, x0, d0, m, rfl, q0, _, rfl, ite2 (fun ok => ?_) (fun ok => ?_)⟩
          · rw [ok, Bool.true_and] at k
            exact ⟨_, rfl, a, _, 1, x1, rfl, rfl, hs, rfl, _, rfl, x1, d1, o, rfl, q1, k⟩
          · rw [Bool.eq_false_iff.mpr ok, Bool.false_and] at k
            exact k
    · have ne : ds.length ≠ 2 := fun z => h2 (decide_eq_true (by rw [len, z]; rfl))
      rw [pairD_len ne] at k
      exact k
  · refine ⟨_, rfl, _, _, _, _, _, rfl, .ty _, ty, kit_ty kt, _, rfl, ?_⟩
    rw [pairD_not no] at k
    exact k
abbrev s_are_pairs : Stmt := top 17
theorem sc_are_pairs : FnScope ["value", "many", "many_other", "pair", "others", "_", "j", "k"] ["value", "many", "many_other"] (defScope s_are_pairs) := ⟨rfl, rfl, rfl, by decide +kernel, rfl, by decide +kernel, by decide +kernel⟩
theorem ok_pairs {f fP : Addr} {fd fdP : FuncData} (F : Fun K "are_pairs" "are_pairs" s_are_pairs f fd) (T : Txt K mg)
    (c_is_pair : ∀ base, Ca P w K mg base CX0 "is_pair" 4 ["value", "many", "many_other"] (spPair K) fP fdP) : FnOk P w K mg base CX0 5 f fd ["value", "many", "many_other"] (spPairs K) := by
  have c_is_pair := c_is_pair base
  refine F.ok sc_are_pairs (fun vs H Q E h => ?_) (fun cdv A outer s H vs Q E hr h => ⟨_, (pss_cons (ps_if (PW.pt (pw_or (pt_not (pt_val (pe_callB (call_isiK K rfl) (by rfl) T.b_isinstance (by decide +kernel) (pa_cons (pv 0) (pa_cons (pe_bltn (v := .ty "tuple") (by rfl) T.b_tuple (by decide +kernel) rfl) pa_nil))))) (pw_or1 (pt_not (pt_val (pe_callB (cr_allK K rfl rfl) (by rfl) T.b_all (by decide +kernel) (pa_cons (pe_lc (own := [("pair", 3)]) (g := gName 3) (tt := tYes) rfl sc_are_pairs.nd (pi_tupK K rfl (pv 0)) (blkOk_by (N := ["value", "many", "many_other", "pair", "others", "_", "j", "k"]) (sc := defScope s_are_pairs) (by decide +kernel)) (fun _ _ _ _ _ => (pg_name (i := 3) sc_are_pairs.nd rfl (Or.inl rfl))) (fun _ _ _ _ _ => pts_nil) (fun _ _ _ _ _ => (pe_call c_is_pair.G (hr.mono (by first | decide | omega)) (by rfl) c_is_pair.g c_is_pair.k c_is_pair.B .nil pass0 (pa_cons (pv 3) (pa_cons (pv 1) (pa_cons (pv 2) pa_nil)))))) pa_nil))))))) (pss_one (ps_ret pe_bl)) pss_nil)
    (pss_cons (ps_setLc (i := 4) (own := [("_", 5), ("j", 6)]) (g := gTup K 2 (gCons (gName 5) (gCons (gName 6) gNil))) (tt := tYes) rfl sc_are_pairs.nd rfl rfl (sw_true rfl rfl rfl (by decide +kernel)) (pi_tupK K rfl (pv 0)) (blkOk_by (N := ["value", "many", "many_other", "pair", "others", "_", "j", "k"]) (sc := defScope s_are_pairs) (by decide +kernel)) (fun _ _ _ _ _ => (pg_tupK K rfl rfl (pgs_cons (pg_name (i := 5) sc_are_pairs.nd rfl (Or.inl rfl)) (pgs_cons (pg_name (i := 6) sc_are_pairs.nd rfl (Or.inl rfl)) pgs_nil)))) (fun _ _ _ _ _ => pts_nil) (fun _ _ _ _ _ => (pv 6)))
    (pss_one (ps_ret (pe_and (pe_callB (cr_allK K rfl rfl) (by rfl) T.b_all (by decide +kernel) (pa_cons (pe_lc (own := [("k", 7)]) (g := gName 7) (tt := tYes) rfl sc_are_pairs.nd (pi_range2 (by rfl) T.b_range (pa_cons pe_int (pa_cons (pe_callB (call_lenK K rfl) (by rfl) T.b_len (by decide +kernel) (pa_cons (pv 0) pa_nil)) pa_nil))) (blkOk_by (N := ["value", "many", "many_other", "pair", "others", "_", "j", "k"]) (sc := defScope s_are_pairs) (by decide +kernel)) (fun _ _ _ _ _ => (pg_name (i := 7) sc_are_pairs.nd rfl (Or.inl rfl))) (fun _ _ _ _ _ => pts_nil) (fun _ _ _ _ _ => (pe_cmpR op_lt (pe_ix (ix_tupK K rfl) (pe_ix (ix_tupK K rfl) (pv 0) (pe_op op_sub (pv 7) pe_int) (fun _ _ => rfl)) pe_int (fun _ _ => rfl)) (pe_ix (ix_tupK K rfl) (pe_ix (ix_tupK K rfl) (pv 0) (pv 7) (fun _ _ => rfl)) pe_int (fun _ _ => rfl)) (nomark _)))) pa_nil)) (pe_one (pe_cmpR op_eq (pe_callB (call_lenS w rfl) (by rfl) T.b_len (by decide +kernel) (pa_cons (pe_callTy (call_setL K w rfl rfl rfl) (by rfl) T.b_set (by decide +kernel) (pa_cons (pv 4) pa_nil)) pa_nil)) (pe_callB (call_lenK K rfl) (by rfl) T.b_len (by decide +kernel) (pa_cons (pv 4) pa_nil)) (nomark _)))))))), ?_⟩)
  · obtain ⟨_, _, _, _, rfl, _⟩ := h
    rfl
  obtain ⟨v, d, m, o, rfl, hd, few, k⟩ := h
  rcases hd.isTup with ⟨a, xs, ds, rfl, rfl, hs, ha⟩ | ⟨T', ty, kt, no⟩
  · have len := ha.len
    have few : ds.length ≤ 1000 := few ds rfl
    have line : xs.length < sizeLine := by have : sizeLine = 16777216 := sizeLine_eq; omega
    have ek : pairsD m o (.tuple ds) = (ds.all (pairD m o) && okPs (ds.map Xby.prD)) := rfl
    rw [ek] at k
    refine ⟨_, rfl, _, _, _, _, _, rfl, .ty _, tyTup hs, kit_ty kit_tt, _, rfl, ?_⟩
    refine ⟨_, rfl, a, rfl, ⟨_, hs⟩, fun D nD => lc_growT hs nD line (fun i => .bl (pairD m o (ds.getD i .none))) (fun _ => true) (fun i x H1 Z N hx s1 kz _ => ?_) (fun H1 s1 hD => ?_)⟩
    · obtain ⟨e, he, hq⟩ := ha.get hx
      refine ⟨rfl, _, rfl, _, rfl, _, rfl, x, e, m, o, rfl, hq.same s1, ?_⟩
      have := kz H1 (Same.refl _) rfl
      rw [List.getD_eq_getElem?_getD, he] at this
      exact this
    rw [len, kept_map ds .none (fun d => V.bl (pairD m o d))] at hD
    refine ⟨D, ds.map (pairD m o), rfl, SqL.of (by rw [List.map_map]; exact hD), ?_⟩
    have e1 : (ds.map (pairD m o)).all id = ds.all (pairD m o) := by rw [List.all_map]; rfl
    rw [e1]
    refine ⟨_, rfl, ?_⟩
    cases hall : ds.all (pairD m o) with
    | false =>
      rw [hall, Bool.false_and] at k
      exact k _ s1
    | true =>
      rw [hall, Bool.true_and] at k
      obtain ⟨prs, _, _⟩ := Prs.of ha hall
      generalize ds.map Xby.prD = ps at prs k
      have lp := prs.len
      refine ⟨_, rfl, a, rfl, ⟨_, hs.ext s1⟩, fun D2 nD2 => lc_growT (hs.ext s1) nD2 line (fun i => .int (ps.getD i (0, 0)).2) (fun _ => true) (fun i x H2 Z N hx s2 kz _ => ?_) (fun H2 s2 hD2 => ?_)⟩
      · obtain ⟨b, rfl, _, hb⟩ := prs.get hx
        exact ⟨b, _, rfl, hb.ext (s1.trans s2), rfl, _, _, rfl, _, _, rfl, rfl, rfl, _, rfl, kz H2 (Same.refl _) rfl⟩
      rw [lp, kept_map ps (0, 0) (fun q => V.int q.2)] at hD2
      have e2 : ps.map (fun q => V.int q.2) = (ps.map (·.2)).map V.int := by rw [List.map_map]; rfl
      rw [e2] at hD2
      have s3 := s1.trans s2
      refine ⟨_, rfl, _, _, rfl, .inr ⟨xs, hs.ext s3, rfl⟩, 1, (xs.length : Int), rfl, ⟨by decide, by decide, by omega, by omega⟩, fun D3 nD3 => lc_growR (lo := 1) (n := ((xs.length : Int) - 1).toNat) nD3 (by omega) (fun i => .bl (decide ((ps.getD i (0, 0)).1 < (ps.getD (i + 1) (0, 0)).1))) (fun _ => true) (fun i H3 Z N hi s4 kz _ => ?_) (fun H3 s4 hD3 => ?_)⟩
      · have i0 : xs[i]? = some xs[i] := List.getElem?_eq_getElem (by omega)
        have i1 : xs[i + 1]? = some xs[i + 1] := List.getElem?_eq_getElem (by omega)
        obtain ⟨b0, hx0, _, hb0⟩ := prs.get i0
        obtain ⟨b1, hx1, _, hb1⟩ := prs.get i1
        have s5 := s3.trans s4
        refine ⟨rfl, _, rfl, _, rfl, _, _, rfl, rfl, a, xs, _, xs[i], rfl, rfl, hs.ext s5, ?_, b0, _, 0, _, hx0, rfl, hb0.ext s5, rfl, _, rfl, _, rfl, a, xs, _, xs[i + 1], rfl, rfl, hs.ext s5, ?_, b1, _, 0, _, hx1, rfl, hb1.ext s5, rfl, _, _, rfl, rfl, kz H3 (Same.refl _) rfl⟩
        · have e : (1 : Int) + (i : Int) - 1 = (i : Int) := by omega
          rw [e]
          exact atI_nat i0
        · have e : (1 : Int) + (i : Int) = ((i + 1 : Nat) : Int) := by omega
          rw [e]
          exact atI_nat i1
      have e3 : ((xs.length : Int) - 1).toNat = ps.length - 1 := by omega
      rw [e3, kept_all] at hD3
      refine ⟨D3, (List.range (ps.length - 1)).map fun i => decide ((ps.getD i (0, 0)).1 < (ps.getD (i + 1) (0, 0)).1), rfl, SqL.of (by rw [List.map_map]; exact hD3), _, rfl, ?_⟩
      rw [rise_all]
      have s6 := s3.trans s4
      have hD2' := s4 _ _ hD2
      refine ite2 (fun hp => ?_) (fun hp => ?_)
      · refine ⟨_, rfl, D2, ps.map (·.2), rfl, SqL.of hD2', by rw [List.length_map]; omega, fun p c np hc1 hc2 _ => ⟨p, _, c, rfl, upd_same, ?_, _, rfl, _, _, rfl, .inl ⟨_, SqL.of (Same.one np _ _ hD2'), rfl⟩, rfl, ?_⟩⟩
        · rw [List.length_map] at hc1
          omega
        · have e4 : decide (V.int (c : Int) = V.int ((((ps.map (·.2)).map V.int).length : Nat) : Int)) = decide (ps.map (·.2)).Nodup := by
            congr 1
            rw [List.length_map]
            refine propext ⟨fun z => hc2.mp ?_, fun z => by rw [hc2.mpr z]⟩
            have := V.int.inj z
            omega
          have := k (upd H3 p (SetO w p (fun j => decide (j ∈ ps.map (·.2))) c)) (Same.upd s6 np)
          unfold okPs at this
          rw [hp, Bool.true_and, ← e4] at this
          exact this
      · have := k _ s6
        unfold okPs at this
        rw [Bool.eq_false_iff.mpr hp, Bool.false_and] at this
        exact this
  · refine ⟨_, rfl, _, _, _, _, _, rfl, .ty _, ty, kit_ty kt, _, rfl, ?_⟩
    have e : pairsD m o d = false := by
      cases d with
      | tuple ds => exact absurd rfl (no ds)
      | _ => rfl
    rw [e] at k
    exact k H (Same.refl H)
abbrev s_is_alignment : Stmt := top 18
theorem sc_is_alignment : FnScope ["one", "other", "value", "columns", "rows"] ["one", "other", "value"] (defScope s_is_alignment) := ⟨rfl, rfl, rfl, by decide +kernel, rfl, by decide +kernel, by decide +kernel⟩
theorem ok_isal {f fP : Addr} {fd fdP : FuncData} (F : Fun K "is_alignment" "is_alignment" s_is_alignment f fd) (T : Txt K mg)
    (c_are_pairs : ∀ base, Ca P w K mg base CX0 "are_pairs" 5 ["value", "many", "many_other"] (spPairs K) fP fdP) : FnOk P w K mg base CX0 6 f fd ["one", "other", "value"] (spIsAl K T.C) := by
  have c_are_pairs := c_are_pairs base
  refine F.ok sc_is_alignment (fun vs H Q E h => ?_) (fun cdv A outer s H vs Q E hr h => ⟨_, (pss_cons (ps_if (PW.pt (pw_or (pt_not (pt_val (pe_callB (call_isiK K rfl) (by rfl) T.b_isinstance (by decide +kernel) (pa_cons (pv 2) (pa_cons (pe_bltn (v := .ty "tuple") (by rfl) T.b_tuple (by decide +kernel) rfl) pa_nil))))) (pw_or1 (pt_cmpR op_ne (pe_callB (call_lenK K rfl) (by rfl) T.b_len (by decide +kernel) (pa_cons (pv 2) pa_nil)) pe_int (nomark _))))) (pss_one (ps_ret pe_bl)) pss_nil)
    (pss_cons (ps_asg (pv 2) (pg_tupK K rfl rfl (pgs_cons (pg_name (i := 3) sc_is_alignment.nd rfl (Or.inl rfl)) (pgs_cons (pg_name (i := 4) sc_is_alignment.nd rfl (Or.inl rfl)) pgs_nil))))
    (pss_cons (ps_if (pt_not (pt_val (pe_call c_are_pairs.G (hr.mono (by first | decide | omega)) (by rfl) c_are_pairs.g c_are_pairs.k c_are_pairs.B .nil pass0 (pa_cons (pv 3) (pa_cons (pe_callB (call_lenK K rfl) (by rfl) T.b_len (by decide +kernel) (pa_cons (pe_fldK K rfl (pv 0) rfl) pa_nil)) (pa_cons (pe_callB (call_lenK K rfl) (by rfl) T.b_len (by decide +kernel) (pa_cons (pe_fldK K rfl (pv 1) rfl) pa_nil)) pa_nil)))))) (pss_one (ps_ret pe_bl)) pss_nil)
    (pss_one (ps_ret (pe_and (pe_call c_are_pairs.G (hr.mono (by first | decide | omega)) (by rfl) c_are_pairs.g c_are_pairs.k c_are_pairs.B .nil pass0 (pa_cons (pv 4) (pa_cons (pe_callB (call_lenK K rfl) (by rfl) T.b_len (by decide +kernel) (pa_cons (pe_fldK K rfl (pv 0) rfl) pa_nil)) (pa_cons (pe_callB (call_lenK K rfl) (by rfl) T.b_len (by decide +kernel) (pa_cons (pe_fldK K rfl (pv 1) rfl) pa_nil)) pa_nil)))) (pe_one (pe_or (pe_cmpR (op_neNilT K rfl hr.units) (pv 3) (pe_tup pa_nil) (nomark _)) (pe_one (pe_cmpR (op_nilT K rfl hr.units0) (pv 4) (pe_tup pa_nil) (nomark _))))))))))), ?_⟩)
  · obtain ⟨_, _, _, _, _, _, _, _, rfl, _⟩ := h
    rfl
  obtain ⟨one, other, v, d, hs, ks, rs, qs, rfl, t1, t2, hd, few, k⟩ := h
  rcases hd.isTup with ⟨a, xs, ds, rfl, rfl, hx, ha⟩ | ⟨T', ty, kt, no⟩
  · have len := ha.len
    refine ⟨_, rfl, _, _, _, _, _, rfl, .ty _, tyTup hx, kit_ty kit_tt, _, rfl, ?_⟩
    refine ⟨_, rfl, _, _, rfl, .inr ⟨xs, hx, rfl⟩, rfl, _, rfl, ite2 (fun h2 => ?_) (fun h2 => ?_)⟩
    · have ne : ds.length ≠ 2 := fun z => by
        rw [len, z] at h2
        simp at h2
      rw [laidD_len ne] at k
      exact k H (Same.refl H)
    · have two : xs.length = 2 := by
        have : V.int ((xs.length : Nat) : Int) = V.int 2 := by simpa using h2
        have := V.int.inj this
        omega
      obtain ⟨x0, x1, rfl⟩ : ∃ x0 x1, xs = [x0, x1] := by
        match xs, two with
        | [x0, x1], _ => exact ⟨x0, x1, rfl⟩
      cases ha with
      | @cons _ _ d0 _ q0 r0 =>
        cases r0 with
        | @cons _ _ d1 _ q1 r1 =>
          cases r1
          obtain ⟨dx, ac, ar, xr, t1⟩ := t1
          obtain ⟨dx', ac', ar', xr', t2⟩ := t2
          have ek : laidD hs.length ks.length rs.length qs.length (.tuple [d0, d1]) = (pairsD hs.length ks.length d0 && pairsD rs.length qs.length d1 && (!nilD d0 || nilD d1)) := rfl
          rw [ek] at k
          refine ⟨_, rfl, a, _, rfl, hx, rfl, _, _, rfl, _, _, rfl, rfl, ?_⟩
          refine ⟨_, rfl, _, rfl, one, T.C, dx, _, _, rfl, t1.at_, T.cl, T.n_columns, l_columns .., _, _, rfl, .inr ⟨_, t1.c, rfl⟩, _, rfl, other, T.C, dx', _, _, rfl, t2.at_, T.cl, T.n_columns, l_columns .., _, _, rfl, .inr ⟨_, t2.c, rfl⟩, ?_⟩
          refine ⟨x0, d0, hs.length, ks.length, by rw [List.length_map, List.length_map]; rfl, q0, few _ rfl d0 (by simp), fun H1 s1 => ⟨_, rfl, ?_⟩⟩
          cases h0 : pairsD hs.length ks.length d0 with
          | false =>
            rw [h0, Bool.false_and, Bool.false_and] at k
            exact k H1 s1
          | true =>
            rw [h0, Bool.true_and] at k
            refine ⟨_, rfl, _, rfl, one, T.C, dx, _, _, rfl, s1 _ _ t1.at_, T.cl, T.n_rows, l_rows .., _, _, rfl, .inr ⟨_, t1.r.ext s1, rfl⟩, _, rfl, other, T.C, dx', _, _, rfl, s1 _ _ t2.at_, T.cl, T.n_rows, l_rows .., _, _, rfl, .inr ⟨_, t2.r.ext s1, rfl⟩, ?_⟩
            refine ⟨x1, d1, rs.length, qs.length, by rw [t1.rows.len, t2.rows.len]; rfl, q1.same s1, few _ rfl d1 (by simp), fun H2 s2 => ⟨_, rfl, ?_⟩⟩
            have s3 := s1.trans s2
            refine ite2 (fun h1 => ?_) (fun h1 => ?_)
            · rw [h1, Bool.true_and] at k
              obtain ⟨c0, z0, e0, rfl, rfl, hc0, ha0⟩ := pairs_tup q0 h0
              obtain ⟨c1, z1, e1, rfl, rfl, hc1, ha1⟩ := pairs_tup q1 h1
              refine ⟨_, rfl, by show 0 ≤ sizeLine; decide, fun n0 nn0 => ⟨c0, n0, z0, rfl, rfl, (hc0.ext s3).ext (Same.one nn0), SqT.of upd_same, _, rfl, ?_⟩⟩
              have s4 := Same.upd s3 (o := .tup []) nn0
              generalize upd H2 n0 (.tup []) = H3 at s4 ⊢
              have em0 : z0.isEmpty = nilD (.tuple e0) := nilD_of ha0
              rw [em0]
              refine ite2 (fun hz => ?_) (fun hz => ?_)
              · have := k H3 s4
                rw [hz, Bool.true_or] at this
                exact this
              · refine ⟨_, rfl, by show 0 ≤ sizeLine; decide, fun n1 nn1 => ⟨c1, n1, z1, rfl, rfl, (hc1.ext s4).ext (Same.one nn1), SqT.of upd_same, ?_⟩⟩
                have em1 : z1.isEmpty = nilD (.tuple e1) := nilD_of ha1
                rw [em1]
                have := k _ (Same.upd s4 (o := .tup []) nn1)
                rw [Bool.eq_false_iff.mpr hz, Bool.false_or] at this
                exact this
            · rw [Bool.eq_false_iff.mpr h1, Bool.false_and] at k
              exact k H2 s3
  · refine ⟨_, rfl, _, _, _, _, _, rfl, .ty _, ty, kit_ty kt, _, rfl, ?_⟩
    have e : laidD hs.length ks.length rs.length qs.length d = false := by
      cases d with
      | tuple ds => exact absurd rfl (no ds)
      | _ => rfl
    rw [e] at k
    exact k H (Same.refl H)
end
end K09

set_option Elab.async false
set_option linter.all false
set_option maxRecDepth 100000
set_option maxHeartbeats 8000000
namespace K09
open PySem L2 Xby
def spOdd (K : PySem.W.Frag) : Sp := fun vs H Q _ => ∃ (p : Addr) (v : V) (d : PyData) (w k n : Nat), vs = [.ref p, v] ∧ Dq K (wo p H) v d ∧ Sz w k d ∧ w ≤ 100000 ∧ n + 1 ≤ 1000000 ∧ Pot H p n ∧
  ∀ v' H', Okd K p (2 * w + 110) (k + 2) H' v' → Pot H' p (n + 1) → But p H H' → Q v' H'
section
variable {P : Program} {w : World} {K : PySem.W.Frag} {mg : Str → Option Value} {base : Heap}
abbrev s_law_is_int : Stmt := top 45
theorem sc_law_is_int : FnScope ["_law_value", "_law_low", "_law_high"] ["_law_value", "_law_low", "_law_high"] (defScope s_law_is_int) := ⟨rfl, rfl, rfl, by decide +kernel, rfl, by decide +kernel, by decide +kernel⟩
theorem ok_is_int {f : Addr} {fd : FuncData} (F : Fun K "_law_is_int" "_law_is_int" s_law_is_int f fd) (T : Txt K mg) : FnOk P w K mg base CX0 1 f fd ["_law_value", "_law_low", "_law_high"] (spWithin K) := by
  refine F.ok sc_law_is_int (fun vs H Q E h => ?_) (fun cdv A outer s H vs Q E hr h => ⟨_, (pss_one (ps_ret (pe_and (pe_callB (call_isiK K rfl) (by rfl) T.b_isinstance (by decide +kernel) (pa_cons (pv 0) (pa_cons (pe_bltn (v := .ty "int") (by rfl) T.b_int (by decide +kernel) rfl) pa_nil))) (pe_and (pe_not (pe_callB (call_isiK K rfl) (by rfl) T.b_isinstance (by decide +kernel) (pa_cons (pv 0) (pa_cons (pe_bltn (v := .ty "bool") (by rfl) T.b_bool (by decide +kernel) rfl) pa_nil)))) (pe_one (pe_chain op_le op_le (pv 1) (pv 0) (pv 2))))))), ?_⟩)
  · obtain ⟨_, _, _, _, rfl, _⟩ := h
    rfl
  obtain ⟨v, d, lo, hi, rfl, hd, k⟩ := h
  rcases hd.kind with ⟨b, rfl⟩ | ⟨i, rfl⟩ | ⟨T', ty, ⟨kb, ki⟩, no⟩
  · exact ⟨_, rfl, _, _, _, _, _, rfl, .ty _, .base (.bl b), kit_ty kit_bi, _, rfl, _, rfl, _, _, _, _, _, rfl, .ty _, .base (.bl b), kit_ty kit_bb, _, rfl, _, rfl, k⟩
  · refine ⟨_, rfl, _, _, _, _, _, rfl, .ty _, .base (.int i), kit_ty kit_ii, _, rfl, _, rfl, _, _, _, _, _, rfl, .ty _, .base (.int i), kit_ty kit_ib, _, rfl, _, rfl, ?_⟩
    refine ⟨_, rfl, _, rfl, _, _, rfl, rfl, _, rfl, ite2 (fun h1 => ?_) (fun h1 => ?_)⟩
    · refine ⟨_, rfl, _, _, rfl, rfl, ?_⟩
      have e : decide (i ≤ hi) = okV lo hi (.int i) := by
        have := of_decide_eq_true h1
        show _ = decide (lo ≤ i ∧ i ≤ hi)
        congr 1
        exact propext ⟨fun z => ⟨this, z⟩, fun z => z.2⟩
      show Q (.bl (decide (i ≤ hi))) H
      rw [e]
      exact k
    · have e : okV lo hi (.int i) = false := decide_eq_false fun z => h1 (decide_eq_true z.1)
      rw [e] at k
      exact k
  · rw [no] at k
    exact ⟨_, rfl, _, _, _, _, _, rfl, .ty _, ty, kit_ty ki, _, rfl, k⟩
abbrev s_law_odd : Stmt := top 46
theorem sc_law_odd : FnScope ["_law_pot_here", "_law_thing", "_law_some"] ["_law_pot_here", "_law_thing"] (defScope s_law_odd) := ⟨rfl, rfl, rfl, by decide +kernel, rfl, by decide +kernel, by decide +kernel⟩
theorem ok_odd {f fA : Addr} {fd fdA : FuncData} (F : Fun K "_law_odd" "_law_odd" s_law_odd f fd) (T : Txt K mg)
    (c_law_any : ∀ base, Ca P w K mg base CX0 "_law_any" 2 ["_law_pot_here", "_law_items"] spAny fA fdA) : FnOk P w K mg base CX0 3 f fd ["_law_pot_here", "_law_thing"] (spOdd K) := by
  have c_law_any := c_law_any base
  refine F.ok sc_law_odd (fun vs H Q E h => ?_) (fun cdv A outer s H vs Q E hr h => ⟨_, (pss_cons (ps_set (i := 2) sc_law_odd.nd rfl (Or.inl rfl) (pe_lst (pa_cons pe_non (pa_cons pe_bl (pa_cons pe_bl (pa_cons pe_int (pa_cons (pe_un un_neg pe_int) (pa_cons pe_int (pa_cons pe_int (pa_cons pe_int (pa_cons pe_int (pa_cons (pe_un un_neg pe_int) (pa_cons (pe_op op_pow pe_int pe_int) (pa_cons pe_str (pa_cons pe_str (pa_cons pe_str (pa_cons pe_str (pa_cons pe_str (pa_cons (pe_tup pa_nil) (pa_cons (pe_lstS pa_nil) (pa_cons pe_dnewK pa_nil)))))))))))))))))))))
    (pss_cons (ps_set (i := 2) sc_law_odd.nd rfl (Or.inl rfl) (pe_op op_cat (pv 2) (pe_lst (pa_cons (pe_tup (pa_cons (pv 1) pa_nil)) (pa_cons (pe_lstS (pa_cons (pv 1) pa_nil)) (pa_cons (pe_disp (pps_cons pe_str (pv 1) pps_nil) (by rfl) (by rfl) (fun z => by cases z) (by decide)) (pa_cons (pe_tup (pa_cons (pe_tup pa_nil) pa_nil)) (pa_cons (pe_tup (pa_cons pe_str (pa_cons pe_str pa_nil))) (pa_cons (pe_tup (pa_cons pe_int (pa_cons pe_str pa_nil))) pa_nil)))))))))
    (pss_cons (ps_if (pt_val (pe_callB (call_isiK K rfl) (by rfl) T.b_isinstance (by decide +kernel) (pa_cons (pv 1) (pa_cons (pe_bltn (v := .ty "tuple") (by rfl) T.b_tuple (by decide +kernel) rfl) pa_nil)))) (pss_one (ps_set (i := 2) sc_law_odd.nd rfl (Or.inl rfl) (pe_op op_cat (pv 2) (pe_op op_rep (pe_lst (pa_cons (pe_callTy (call_listT K rfl) (by rfl) T.b_list (by decide +kernel) (pa_cons (pv 1) pa_nil)) (pa_cons (pe_op (op_catAK K rfl) (pv 1) (pe_slice (sl_tupAK K rfl) (pv 1) po_none (po_some pe_int))) (pa_cons (pe_slice (sl_tupAK K rfl) (pv 1) (po_some pe_int) po_none) (pa_cons (pe_slice (sl_tupAK K rfl) (pv 1) po_none (po_some (pe_un un_neg pe_int))) (pa_cons (pe_backT K rfl (pv 1)) (pa_cons (pe_op (op_catAK K rfl) (pv 1) (pe_tup (pa_cons pe_non pa_nil))) pa_nil))))))) pe_int)))) pss_nil)
    (pss_one (ps_ret (pe_call c_law_any.G (hr.mono (by first | decide | omega)) (by rfl) c_law_any.g c_law_any.k c_law_any.B .nil pass0 (pa_cons (pv 0) (pa_cons (pv 2) pa_nil)))))))), ?_⟩)
  · obtain ⟨_, _, _, _, _, _, rfl, _⟩ := h
    rfl
  obtain ⟨p, v, d, W, k, n, rfl, th, sz, hw, hn, pot, kk⟩ := h
  have cst : ∀ {x : V} {e : PyData} {H' : Hp}, Dq K (wo p H') x e → Sz 110 2 e → Okd K p (2 * W + 110) (k + 2) H' x := fun a b => ⟨_, a, b.more (by omega) (by omega)⟩
  refine ⟨_, rfl, _, rfl, _, _, rfl, rfl, ⟨by decide, by decide, by decide⟩, by show 0 ≤ sizeLine; decide, fun t0 nt0 => ?_⟩
  have g : ∀ x ∈ [V.ref t0], Okd K p (2 * W + 110) (k + 2) (upd H t0 (.tup [])) x := all_add (by simp) (cst (newTup pot nt0 .nil) (by decide +kernel))
  have pot1 := pot.new (o := .tup []) nt0
  have but1 : But p H (upd H t0 (.tup [])) := But.of (Same.one nt0)
  generalize upd H t0 (.tup []) = H1 at g pot1 but1 ⊢
  refine ⟨by show 0 ≤ sizeLine; decide, fun l0 nl0 sl0 => ?_⟩
  have g := all_add (all_but g (But.of (Same.one (o := .lst []) nl0))) (cst (newLst pot1 nl0 sl0 .nil) (by decide +kernel))
  have pot1 := pot1.new (o := .lst []) nl0
  have but1 := but1.new (o := .lst []) nl0
  generalize upd H1 l0 (.lst []) = H1 at g pot1 but1 ⊢
  refine fun d0 nd0 => ?_
  have g := all_add (all_but g (But.of (Same.one (o := .dK []) nd0))) (cst (newDct pot1 nd0) (by decide +kernel))
  have pot1 := pot1.new (o := .dK []) nd0
  have but1 := but1.new (o := .dK []) nd0
  generalize upd H1 d0 (.dK []) = H1 at g pot1 but1 ⊢
  refine ⟨by show 19 ≤ sizeLine; decide, fun L1 nL1 => ?_⟩
  have nL1p : L1 ≠ p := (pot1.ne nL1).symm
  have s1 : Same H1 (upd H1 L1 (.lst [.non, .bl true, .bl false, .int 0, .int (-1), .int 1, .int 2, .int 3, .int 1000, .int (-1000), .int (10 ^ (30 : Int).toNat), .str "", .str "a", .str "A", .str "a1", .str "abcdefghi", .ref t0, .ref l0, .ref d0])) := Same.one nL1
  have hL1 : (upd H1 L1 (.lst [.non, .bl true, .bl false, .int 0, .int (-1), .int 1, .int 2, .int 3, .int 1000, .int (-1000), .int (10 ^ (30 : Int).toNat), .str "", .str "a", .str "A", .str "a1", .str "abcdefghi", .ref t0, .ref l0, .ref d0])) L1 = some (.lst [.non, .bl true, .bl false, .int 0, .int (-1), .int 1, .int 2, .int 3, .int 1000, .int (-1000), .int (10 ^ (30 : Int).toNat), .str "", .str "a", .str "A", .str "a1", .str "abcdefghi", .ref t0, .ref l0, .ref d0]) := upd_same
  have g := all_but g (But.of s1)
  have pot1 := pot1.same s1
  have but1 := but1.same s1
  have g1 : ∀ x ∈ [V.non, .bl true, .bl false, .int 0, .int (-1), .int 1, .int 2, .int 3, .int 1000, .int (-1000), .int (10 ^ (30 : Int).toNat), .str "", .str "a", .str "A", .str "a1", .str "abcdefghi", .ref t0, .ref l0, .ref d0], Okd K p (2 * W + 110) (k + 2) (upd H1 L1 (.lst [.non, .bl true, .bl false, .int 0, .int (-1), .int 1, .int 2, .int 3, .int 1000, .int (-1000), .int (10 ^ (30 : Int).toNat), .str "", .str "a", .str "A", .str "a1", .str "abcdefghi", .ref t0, .ref l0, .ref d0])) x := by
    intro x hx
    simp only [List.mem_cons, List.not_mem_nil, or_false] at hx
    rcases hx with rfl | rfl | rfl | rfl | rfl | rfl | rfl | rfl | rfl | rfl | rfl | rfl | rfl | rfl | rfl | rfl | rfl | rfl | rfl
    · exact cst .non (by decide +kernel)
    · exact cst (.bl _) (by decide +kernel)
    · exact cst (.bl _) (by decide +kernel)
    · exact cst (.int _) (by decide +kernel)
    · exact cst (.int _) (by decide +kernel)
    · exact cst (.int _) (by decide +kernel)
    · exact cst (.int _) (by decide +kernel)
    · exact cst (.int _) (by decide +kernel)
    · exact cst (.int _) (by decide +kernel)
    · exact cst (.int _) (by decide +kernel)
    · exact cst (.int _) (by decide +kernel)
    · exact cst (.str _) (by decide +kernel)
    · exact cst (.str _) (by decide +kernel)
    · exact cst (.str _) (by decide +kernel)
    · exact cst (.str _) (by decide +kernel)
    · exact cst (.str _) (by decide +kernel)
    · exact g _ (by simp)
    · exact g _ (by simp)
    · exact g _ (by simp)
  show tSeq _ _ _ _ (upd H1 L1 (.lst [.non, .bl true, .bl false, .int 0, .int (-1), .int 1, .int 2, .int 3, .int 1000, .int (-1000), .int (10 ^ (30 : Int).toNat), .str "", .str "a", .str "A", .str "a1", .str "abcdefghi", .ref t0, .ref l0, .ref d0]))
  generalize hI1 : [V.non, .bl true, .bl false, .int 0, .int (-1), .int 1, .int 2, .int 3, .int 1000, .int (-1000), .int (10 ^ (30 : Int).toNat), .str "", .str "a", .str "A", .str "a1", .str "abcdefghi", .ref t0, .ref l0, .ref d0] = I1 at hL1 g1 pot1 but1 ⊢
  have len1 : I1.length = 19 := by rw [← hI1]; rfl
  clear hI1 g s1
  generalize upd H1 L1 (.lst I1) = H1 at hL1 g1 pot1 but1 ⊢
  have th1 := th.same (wo_but but1)
  -- what holds the thing
  have itm : ∀ {x : V} {e : PyData} {H' : Hp}, Dq K (wo p H') x e → Sz (W + 3) (k + 1) e → Okd K p (2 * W + 110) (k + 2) H' x := fun a b => ⟨_, a, b.more (by omega) (by omega)⟩
  have one : Sz (W + 3) (k + 1) (.tuple [d]) := (Szs.one sz).tup.more (by omega) (Nat.le_refl _)
  have oneL : Sz (W + 3) (k + 1) (.list [d]) := (Szs.one sz).lst.more (by omega) (Nat.le_refl _)
  refine ⟨_, rfl, _, rfl, by show 1 ≤ sizeLine; decide, fun t1 nt1 => ?_⟩
  have s2 := Same.one (o := .tup [v]) nt1
  have g : ∀ x ∈ [V.ref t1], Okd K p (2 * W + 110) (k + 2) (upd H1 t1 (.tup [v])) x := all_add (by simp) (itm (newTup pot1 nt1 (.cons th1 .nil)) one)
  have hL1 := s2 _ _ hL1
  have g1 := all_but g1 (But.of s2)
  have pot1 := pot1.same s2
  have but1 := but1.same s2
  have th1 := th1.same (wo_but (But.of s2))
  generalize upd H1 t1 (.tup [v]) = H1 at g hL1 g1 pot1 but1 th1 ⊢
  refine ⟨_, rfl, by show 1 ≤ sizeLine; decide, fun l1 nl1 sl1 => ?_⟩
  have s2 := Same.one (o := .lst [v]) nl1
  have g := all_add (all_but g (But.of s2)) (itm (newLst pot1 nl1 sl1 (.cons th1 .nil)) oneL)
  have hL1 := s2 _ _ hL1
  have g1 := all_but g1 (But.of s2)
  have pot1 := pot1.same s2
  have but1 := but1.same s2
  have th1 := th1.same (wo_but (But.of s2))
  generalize upd H1 l1 (.lst [v]) = H1 at g hL1 g1 pot1 but1 th1 ⊢
  refine fun d1 nd1 => ?_
  refine ⟨_, rfl, upd_same, [(.inr "a", v)], rfl, by show 1 ≤ 15; decide, ?_⟩
  have em : mergeK [] [((.inr "a" : Key), v)] = [(.inr "a", v)] := rfl
  rw [upd_upd, em]
  have s2 := Same.one (o := .dK [((.inr "a" : Key), v)]) nd1
  have g := all_add (all_but g (But.of s2)) (itm (.dct (wo_at (pot1.ne nd1).symm upd_same) (.cons (th1.same (wo_but (But.of s2))) .nil)) sz.dictA)
  have hL1 := s2 _ _ hL1
  have g1 := all_but g1 (But.of s2)
  have pot1 := pot1.same s2
  have but1 := but1.same s2
  have th1 := th1.same (wo_but (But.of s2))
  generalize upd H1 d1 (.dK [((.inr "a" : Key), v)]) = H1 at g hL1 g1 pot1 but1 th1 ⊢
  refine ⟨by show 0 ≤ sizeLine; decide, fun e0 ne0 => ?_⟩
  have s2 := Same.one (o := .tup []) ne0
  have dn := newTup (K := K) pot1 ne0 .nil
  have g := all_add (all_but g (But.of s2)) (cst dn (by decide +kernel))
  have hL1 := s2 _ _ hL1
  have g1 := all_but g1 (But.of s2)
  have pot1 := pot1.same s2
  have but1 := but1.same s2
  have th1 := th1.same (wo_but (But.of s2))
  generalize upd H1 e0 (.tup []) = H1 at g hL1 g1 pot1 but1 th1 dn ⊢
  refine ⟨by show 1 ≤ sizeLine; decide, fun t2 nt2 => ?_⟩
  have s2 := Same.one (o := .tup [.ref e0]) nt2
  have dn := newTup (K := K) pot1 nt2 (.cons dn .nil)
  have g := all_add (all_but g (But.of s2)) (cst dn (by decide +kernel))
  have hL1 := s2 _ _ hL1
  have g1 := all_but g1 (But.of s2)
  have pot1 := pot1.same s2
  have but1 := but1.same s2
  have th1 := th1.same (wo_but (But.of s2))
  clear dn
  generalize upd H1 t2 (.tup [.ref e0]) = H1 at g hL1 g1 pot1 but1 th1 ⊢
  refine ⟨by show 2 ≤ sizeLine; decide, fun t3 nt3 => ?_⟩
  have s2 := Same.one (o := .tup [.str "a", .str "a"]) nt3
  have dn := newTup (K := K) pot1 nt3 (.cons (.str "a") (.cons (.str "a") .nil))
  have g := all_add (all_but g (But.of s2)) (cst dn (by decide +kernel))
  have hL1 := s2 _ _ hL1
  have g1 := all_but g1 (But.of s2)
  have pot1 := pot1.same s2
  have but1 := but1.same s2
  have th1 := th1.same (wo_but (But.of s2))
  clear dn
  generalize upd H1 t3 (.tup [.str "a", .str "a"]) = H1 at g hL1 g1 pot1 but1 th1 ⊢
  refine ⟨by show 2 ≤ sizeLine; decide, fun t4 nt4 => ?_⟩
  have s2 := Same.one (o := .tup [.int 1, .str "a"]) nt4
  have dn := newTup (K := K) pot1 nt4 (.cons (.int 1) (.cons (.str "a") .nil))
  have g := all_add (all_but g (But.of s2)) (cst dn (by decide +kernel))
  have hL1 := s2 _ _ hL1
  have g1 := all_but g1 (But.of s2)
  have pot1 := pot1.same s2
  have but1 := but1.same s2
  have th1 := th1.same (wo_but (But.of s2))
  clear dn
  generalize upd H1 t4 (.tup [.int 1, .str "a"]) = H1 at g hL1 g1 pot1 but1 th1 ⊢
  refine ⟨by show 6 ≤ sizeLine; decide, fun L2 nL2 => ?_⟩
  have s2 := Same.one (o := .lst [.ref t1, .ref l1, .ref d1, .ref t2, .ref t3, .ref t4]) nL2
  have g2 : ∀ x ∈ [V.ref t1, .ref l1, .ref d1, .ref t2, .ref t3, .ref t4], Okd K p (2 * W + 110) (k + 2) (upd H1 L2 (.lst [.ref t1, .ref l1, .ref d1, .ref t2, .ref t3, .ref t4])) x := fun x hx => (all_but g (But.of s2)) x (by
    simp only [List.mem_cons, List.not_mem_nil, or_false] at hx ⊢
    rcases hx with rfl | rfl | rfl | rfl | rfl | rfl <;> simp)
  have hL1 := s2 _ _ hL1
  have g1 := all_but g1 (But.of s2)
  have pot1 := pot1.same s2
  have but1 := but1.same s2
  have th1 := th1.same (wo_but (But.of s2))
  have hL2 : (upd H1 L2 (.lst [.ref t1, .ref l1, .ref d1, .ref t2, .ref t3, .ref t4])) L2 = some (.lst [.ref t1, .ref l1, .ref d1, .ref t2, .ref t3, .ref t4]) := upd_same
  clear g
  generalize upd H1 L2 (.lst [.ref t1, .ref l1, .ref d1, .ref t2, .ref t3, .ref t4]) = H1 at g2 hL1 g1 pot1 but1 th1 hL2 ⊢
  generalize hI2 : [V.ref t1, .ref l1, .ref d1, .ref t2, .ref t3, .ref t4] = I2 at g2 hL2
  have len2 : I2.length = 6 := by rw [← hI2]; rfl
  clear hI2
  refine ⟨L1, L2, I1, I2, rfl, rfl, hL1, hL2, by rw [len1, len2]; decide, fun L3 nL3 => ?_⟩
  have g3 : ∀ x ∈ I1 ++ I2, Okd K p (2 * W + 110) (k + 2) H1 x := fun x hx => by
    rcases List.mem_append.mp hx with hx | hx
    · exact g1 x hx
    · exact g2 x hx
  have len3 : (I1 ++ I2).length = 25 := by rw [List.length_append, len1, len2]
  generalize I1 ++ I2 = I3 at g3 len3 nL3 ⊢
  have s2 := Same.one (o := .lst I3) nL3
  have g3 := all_but g3 (But.of s2)
  have pot1 := pot1.same s2
  have but1 := but1.same s2
  have th1 := th1.same (wo_but (But.of s2))
  have hL3 : (upd H1 L3 (.lst I3)) L3 = some (.lst I3) := upd_same
  clear hL1 hL2 g1 g2
  generalize upd H1 L3 (.lst I3) = H1 at g3 pot1 but1 th1 hL3 ⊢
  have nL3p : ∀ {H' : Hp} {m : Nat} {L : Addr} {I : List V}, Pot H' p m → H' L = some (.lst I) → 3 < I.length → L ≠ p := fun {H' m L I} pt hl h z => by
    obtain ⟨_, _, _, q, _⟩ := pt
    rw [← z, hl] at q
    injection q with q
    injection q with q
    rw [q] at h
    simp at h
  have fin : ∀ {H' : Hp} {L : Addr} {I : List V}, Pot H' p n → But p H H' → H' L = some (.lst I) → (3 < I.length ∧ I.length < 1000) → (∀ x ∈ I, Okd K p (2 * W + 110) (k + 2) H' x) → spAny [.ref p, .ref L] H' Q E0 := fun {H' L I} pt bt hl len gI =>
    ⟨p, L, I, n, rfl, hl, nL3p pt hl len.1, ⟨by omega, len.2⟩, by omega, pt, fun x H2 hx pot2 but2 => kk x H2 ((gI x hx).but but2) pot2 (bt.trans but2)⟩
  rcases (th1.same wo_same).isTup with ⟨_, _, ds, _, rfl, _, _⟩ | ⟨T', ty, kt, no⟩
  · obtain ⟨a, xs, rfl, hs, ha⟩ := th1.ofTup
    obtain ⟨j, rfl, si⟩ := sz.items
    have len := ha.len
    have few := si.len
    have big : ∀ {e : List PyData}, Szs (2 * W + 1) j e → Sz (2 * W + 110) (j + 1 + 2) (.tuple e) := fun z => z.tup.more (by omega) (by omega)
    have bag : Bag K p n (2 * W + 110) (j + 1 + 2) H a xs ds L3 I3 H1 [] := ⟨pot1, but1, hs, ha, hL3, g3, by simp⟩
    clear pot1 but1 hs ha hL3 g3 th1 th
    refine ⟨_, rfl, _, _, _, _, _, rfl, .ty _, tyTup bag.hsc, kit_ty kit_tt, _, rfl, ?_⟩
    refine ⟨_, rfl, _, rfl, a, xs, rfl, bag.hsc, fun l3 nl3 sl3 => ?_⟩
    have bag := (bag.same (Same.one (o := .lst xs) nl3)).add ⟨_, newLst bag.pot nl3 sl3 bag.ha, si.lst.more (by omega) (by omega)⟩
    generalize upd H1 l3 (.lst xs) = H1 at bag ⊢
    refine ⟨_, rfl, _, rfl, _, rfl, partT bag.hsc fun c1 H2 s2 hc1 => catT (bag.same s2).hsc hc1 ?_ fun c2 H3 s3 hc2 => ?_⟩
    · rw [cut_to (by decide), List.length_take]
      have := Nat.min_le_right (1 : Int).toNat xs.length
      omega
    rw [cut_to (by decide)] at hc2
    have bag := bag.tup (s2.trans s3) hc2 (bag.ha.add (bag.ha.part _).1) (big ((si.add (si.take _)).more (by omega) (Nat.le_refl _)))
    refine ⟨_, rfl, _, rfl, ?_⟩
    dsimp only [tNoPart]
    refine partT bag.hsc fun c3 H4 s4 hc3 => ?_
    rw [cut_from (by decide)] at hc3
    have bag := bag.tup s4 hc3 (bag.ha.part _).2 (big ((si.drop _).more (by omega) (Nat.le_refl _)))
    refine ⟨_, rfl, _, rfl, _, rfl, partT bag.hsc fun c4 H5 s5 hc4 => ?_⟩
    rw [show (-(1 : Int)) = -1 from rfl, cut_last] at hc4
    have bag := bag.tup s5 hc4 (bag.ha.part _).1 (big ((si.take _).more (by omega) (Nat.le_refl _)))
    refine ⟨_, rfl, a, xs, rfl, bag.hsc, fun c5 nc5 => ?_⟩
    have bag := bag.tup (Same.one (o := .tup xs.reverse) nc5) (SqT.of upd_same) bag.ha.back (big (si.rev.more (by omega) (Nat.le_refl _)))
    generalize upd H5 c5 (.tup xs.reverse) = H6 at bag ⊢
    refine ⟨_, rfl, by show 1 ≤ sizeLine; decide, fun n1 nn1 => catT (bag.same (Same.one nn1)).hsc (SqT.of upd_same) (by show xs.length + 1 ≤ 1000000; omega) fun c6 H7 s7 hc6 => ?_⟩
    have nonS : Szs 1 j [PyData.none] := (Szs.one (w := 0) (k := 0) (d := .none) (by decide +kernel)).more (by omega) (Nat.zero_le _)
    have bag := bag.tup ((Same.one (o := .tup [.non]) nn1).trans s7) hc6 (bag.ha.add (.cons .non .nil)) (big ((si.add nonS).more (by omega) (Nat.le_refl _)))
    refine ⟨by show 6 ≤ sizeLine; decide, fun L4 nL4 => ?_⟩
    have bag := bag.same (Same.one (o := .lst [.ref l3, .ref c2, .ref c3, .ref c4, .ref c5, .ref c6]) nL4)
    have hL4 : (upd H7 L4 (.lst [.ref l3, .ref c2, .ref c3, .ref c4, .ref c5, .ref c6])) L4 = some (.lst [.ref l3, .ref c2, .ref c3, .ref c4, .ref c5, .ref c6]) := upd_same
    generalize upd H7 L4 (.lst [.ref l3, .ref c2, .ref c3, .ref c4, .ref c5, .ref c6]) = H8 at bag hL4 ⊢
    refine ⟨L4, 2, _, rfl, rfl, hL4, by decide, by decide, by show 6 * 2 ≤ sizeLine; decide, fun L5 nL5 => ?_⟩
    have bag := bag.same (Same.one (o := .lst (List.replicate (2 : Int).toNat [V.ref l3, .ref c2, .ref c3, .ref c4, .ref c5, .ref c6]).flatten) nL5)
    have hL5 : (upd H8 L5 (.lst (List.replicate (2 : Int).toNat [V.ref l3, .ref c2, .ref c3, .ref c4, .ref c5, .ref c6]).flatten)) L5 = some (.lst (List.replicate (2 : Int).toNat [V.ref l3, .ref c2, .ref c3, .ref c4, .ref c5, .ref c6]).flatten) := upd_same
    generalize upd H8 L5 (.lst (List.replicate (2 : Int).toNat [V.ref l3, .ref c2, .ref c3, .ref c4, .ref c5, .ref c6]).flatten) = H9 at bag hL5 ⊢
    have g5 : ∀ x ∈ (List.replicate (2 : Int).toNat [V.ref l3, .ref c2, .ref c3, .ref c4, .ref c5, .ref c6]).flatten, Okd K p (2 * W + 110) (j + 1 + 2) H9 x := fun x hx => bag.gi x (by
      have hx : x ∈ [V.ref l3, .ref c2, .ref c3, .ref c4, .ref c5, .ref c6] ++ ([V.ref l3, .ref c2, .ref c3, .ref c4, .ref c5, .ref c6] ++ []) := hx
      simp only [List.mem_append, List.mem_cons, List.not_mem_nil, or_false] at hx ⊢
      rcases hx with (rfl | rfl | rfl | rfl | rfl | rfl) | (rfl | rfl | rfl | rfl | rfl | rfl) <;> simp)
    have len5 : (List.replicate (2 : Int).toNat [V.ref l3, .ref c2, .ref c3, .ref c4, .ref c5, .ref c6]).flatten.length = 12 := rfl
    generalize (List.replicate (2 : Int).toNat [V.ref l3, .ref c2, .ref c3, .ref c4, .ref c5, .ref c6]).flatten = I5 at hL5 g5 len5
    refine ⟨L3, L5, I3, I5, rfl, rfl, bag.hl, hL5, by rw [len3, len5]; decide, fun L6 nL6 => ?_⟩
    have s6 := Same.one (o := .lst (I3 ++ I5)) nL6
    have bag2 := bag.same s6
    refine ⟨_, rfl, _, rfl, fin bag2.pot bag2.but upd_same ?_ fun x hx => ?_⟩
    · rw [List.length_append, len3, len5]
      exact ⟨by decide, by decide⟩
    · rcases List.mem_append.mp hx with hx | hx
      · exact bag2.g x hx
      · exact (g5 x hx).but (But.of s6)
  · refine ⟨_, rfl, _, _, _, _, _, rfl, .ty _, ty, kit_ty kt, _, rfl, ?_⟩
    exact ⟨_, rfl, _, rfl, fin pot1 but1 hL3 ⟨by omega, by omega⟩ g3⟩
end
end K09

set_option Elab.async false
set_option linter.all false
set_option maxRecDepth 100000
set_option maxHeartbeats 8000000
namespace K09
open PySem L2 Xby
def spBent (K : PySem.W.Frag) (D : Nat) : Sp := fun vs H Q _ => ∃ (p : Addr) (v : V) (d : PyData) (deep w k n : Nat), vs = [.ref p, v, .int deep] ∧ deep < D ∧ Dq K (wo p H) v d ∧ Sz w k d ∧ w ≤ 900 ∧ n + 10 * (deep + 1) ≤ 1000000 ∧ Pot H p n ∧
  ∀ v' H', Okd K p (2 * w + 113) (k + 2) H' v' → Pot H' p (n + 10 * (deep + 1)) → But p H H' → Q v' H'
section
variable {P : Program} {w : World} {K : PySem.W.Frag} {mg : Str → Option Value} {base : Heap}
abbrev s_law_bent : Stmt := top 47
theorem sc_law_bent : FnScope ["_law_pot_here", "_law_thing", "_law_deep", "_law_at"] ["_law_pot_here", "_law_thing", "_law_deep"] (defScope s_law_bent) := ⟨rfl, rfl, rfl, by decide +kernel, rfl, by decide +kernel, by decide +kernel⟩
theorem bent_zero {k : Nat} {f : Addr} {fd : FuncData} : FnOk P w K mg base CX0 k f fd ["_law_pot_here", "_law_thing", "_law_deep"] (spBent K 0) := by
  constructor
  · intro vs H Q E h
    obtain ⟨_, _, _, _, _, _, _, rfl, _⟩ := h
    rfl
  · intro A outer s H args us vs Q E _ _ _ _ h
    obtain ⟨_, _, _, _, _, _, _, _, z, _⟩ := h
    exact absurd z (Nat.not_lt_zero _)
theorem bent_step {D : Nat} {f fD fO : Addr} {fd fdD fdO : FuncData} (F : Fun K "_law_bent" "_law_bent" s_law_bent f fd) (T : Txt K mg)
    (c_law_draw : ∀ base, Ca P w K mg base CX0 "_law_draw" 1 ["_law_pot_here", "_law_many"] spDraw fD fdD) (c_law_odd : ∀ base, Ca P w K mg base CX0 "_law_odd" 3 ["_law_pot_here", "_law_thing"] (spOdd K) fO fdO)
    (c_law_bent : ∀ base, Ca P w K mg base CX0 "_law_bent" (3 + D) ["_law_pot_here", "_law_thing", "_law_deep"] (spBent K D) f fd) : FnOk P w K mg base CX0 (3 + D + 1) f fd ["_law_pot_here", "_law_thing", "_law_deep"] (spBent K (D + 1)) := by
  have c_law_draw := c_law_draw base
  have c_law_odd := c_law_odd base
  have c_law_bent := c_law_bent base
  refine F.ok sc_law_bent (fun vs H Q E h => ?_) (fun cdv A outer s H vs Q E hr h => ⟨_, (pss_cons (ps_if (PW.pt (pw_or (pt_cmpR op_eq (pv 2) pe_int (nomark _)) (pw_or (pt_not (pt_val (pe_callB (call_isiK K rfl) (by rfl) T.b_isinstance (by decide +kernel) (pa_cons (pv 1) (pa_cons (pe_bltn (v := .ty "tuple") (by rfl) T.b_tuple (by decide +kernel) rfl) pa_nil))))) (pw_or (pt_cmpR (op_nilT K rfl hr.units0) (pv 1) (pe_tup pa_nil) (nomark _)) (pw_or1 (pt_cmpR op_eq (pe_call c_law_draw.G (hr.mono (by first | decide | omega)) (by rfl) c_law_draw.g c_law_draw.k c_law_draw.B .nil pass0 (pa_cons (pv 0) (pa_cons pe_int pa_nil))) pe_int (nomark _))))))) (pss_one (ps_ret (pe_call c_law_odd.G (hr.mono (by first | decide | omega)) (by rfl) c_law_odd.g c_law_odd.k c_law_odd.B .nil pass0 (pa_cons (pv 0) (pa_cons (pv 1) pa_nil))))) pss_nil)
    (pss_cons (ps_set (i := 3) sc_law_bent.nd rfl (Or.inl rfl) (pe_call c_law_draw.G (hr.mono (by first | decide | omega)) (by rfl) c_law_draw.g c_law_draw.k c_law_draw.B .nil pass0 (pa_cons (pv 0) (pa_cons (pe_callB (call_lenK K rfl) (by rfl) T.b_len (by decide +kernel) (pa_cons (pv 1) pa_nil)) pa_nil))))
    (pss_one (ps_ret (pe_op (op_catAK K rfl) (pe_op (op_catAK K rfl) (pe_slice (sl_tupAK K rfl) (pv 1) po_none (po_some (pv 3))) (pe_tup (pa_cons (pe_call c_law_bent.G (hr.mono (by first | decide | omega)) (by rfl) c_law_bent.g c_law_bent.k c_law_bent.B .nil pass0 (pa_cons (pv 0) (pa_cons (pe_ix (ix_tupK K rfl) (pv 1) (pv 3) (fun _ _ => rfl)) (pa_cons (pe_op op_sub (pv 2) pe_int) pa_nil)))) pa_nil))) (pe_slice (sl_tupAK K rfl) (pv 1) (po_some (pe_op op_add (pv 3) pe_int)) po_none)))))), ?_⟩)
  · obtain ⟨_, _, _, _, _, _, _, rfl, _⟩ := h
    rfl
  obtain ⟨p, v, d, deep, W, k, n, rfl, hD, th, sz, hw, hn, pot, kk⟩ := h
  have oddly : ∀ {H' : Hp} {n' : Nat}, Pot H' p n' → n' ≤ n + 5 → But p H H' → spOdd K [.ref p, v] H' Q E0 := fun {H' n'} pt hn' bt =>
    ⟨p, v, d, W, k, n', rfl, th.same (wo_but bt), sz, by omega, by omega, pt, fun v' H2 o pot2 but2 => kk v' H2 (by
      obtain ⟨d', q, z⟩ := o
      exact ⟨d', q, z.more (by omega) (Nat.le_refl _)⟩) (pot2.more (by omega)) (bt.trans but2)⟩
  refine ⟨_, rfl, rfl, _, rfl, ite2 (fun h => ?_) (fun h => ?_)⟩
  · exact ⟨_, rfl, _, rfl, oddly pot (by omega) (But.refl _ _)⟩
  have dp : 1 ≤ deep := by
    rcases Nat.eq_zero_or_pos deep with z | z
    · exact absurd (decide_eq_true (by rw [z]; rfl)) h
    · exact z
  rcases (th.same wo_same).isTup with ⟨_, _, ds, _, rfl, _, _⟩ | ⟨T', ty, kt, no⟩
  · obtain ⟨a, xs, rfl, hs, ha⟩ := th.ofTup
    obtain ⟨j, rfl, si⟩ := sz.items
    have len := ha.len
    have few := si.len
    have hsH := hs.ext wo_same
    refine ⟨_, rfl, _, _, _, _, _, rfl, .ty _, tyTup hsH, kit_ty kit_tt, _, rfl, ?_⟩
    refine ⟨_, rfl, by show 0 ≤ sizeLine; decide, fun e0 ne0 => ⟨a, e0, xs, rfl, rfl, hsH.ext (Same.one ne0), SqT.of upd_same, _, rfl, ite2 (fun he => ?_) (fun hne => ?_)⟩⟩
    · exact ⟨_, rfl, _, rfl, oddly (pot.new ne0) (by omega) (But.of (Same.one ne0))⟩
    have xl : 0 < xs.length := by
      cases xs with
      | nil => exact absurd rfl hne
      | cons x xs => exact Nat.succ_pos _
    have pot1 := pot.new (o := .tup []) ne0
    have but1 : But p H (upd H e0 (.tup [])) := But.of (Same.one ne0)
    generalize upd H e0 (.tup []) = H1 at pot1 but1 ⊢
    refine ⟨_, rfl, p, 4, n, rfl, ⟨by decide, by decide⟩, by omega, pot1, fun r H2 r0 r4 pot2 but2 => ⟨rfl, _, rfl, ite2 (fun hz => ?_) (fun hz => ?_)⟩⟩
    · exact ⟨_, rfl, _, rfl, oddly pot2 (by omega) (but1.trans but2)⟩
    have but2 := but1.trans but2
    have hs2 := hs.ext (wo_but but2)
    have ha2 := ha.same (wo_but but2)
    refine ⟨_, rfl, _, rfl, _, _, rfl, .inr ⟨xs, hs2.ext wo_same, rfl⟩, p, _, n + 1, rfl, ⟨by omega, by omega⟩, by omega, pot2, fun i H3 i0 i1 pot3 but3 => ?_⟩
    have hs3 := hs2.ext (wo_but but3)
    have ha3 := ha2.same (wo_but but3)
    have but3 := but2.trans but3
    have il : i.toNat < xs.length := by omega
    obtain ⟨e, hx, he, hq⟩ : ∃ e, xs[i.toNat]? = some xs[i.toNat] ∧ ds[i.toNat]? = some e ∧ Dq K (wo p H3) xs[i.toNat] e := by
      obtain ⟨e, he, hq⟩ := ha3.get (List.getElem?_eq_getElem il)
      exact ⟨e, List.getElem?_eq_getElem il, he, hq⟩
    have gi : atI xs i = some xs[i.toNat] := by
      have := atI_nat hx
      rw [Int.toNat_of_nonneg i0] at this
      exact this
    have ze := (si.mem (List.mem_of_getElem? he)).self
    have wl : e.weight ≤ W := (si.mem (List.mem_of_getElem? he)).wt
    refine ⟨_, rfl, _, rfl, i, rfl, partT (hs3.ext wo_same) fun c1 H4 s4 hc1 => ?_⟩
    rw [cut_to i0] at hc1
    have hs4 := hs3.ext (wo_but (But.of s4))
    have pot4 := pot3.same s4
    refine ⟨_, rfl, _, rfl, _, rfl, a, xs, i, xs[i.toNat], rfl, rfl, hs4.ext wo_same, gi, _, rfl, _, _, rfl, rfl, p, xs[i.toNat], e, deep - 1, e.weight, j, n + 2, ?_, by omega, hq.same (wo_but (But.of s4)), ze, by omega, by omega, pot4, fun v' H5 o pot5 but5 => ⟨by show 1 ≤ sizeLine; decide, fun b1 nb1 => ?_⟩⟩
    · have : (deep : Int) - 1 = ((deep - 1 : Nat) : Int) := by omega
      show [V.ref p, xs[i.toNat], V.int ((deep : Int) - 1)] ++ [] = _
      rw [this]
      rfl
    have sb := Same.one (o := .tup [v']) nb1
    have hc1b := ((seqWo hc1 pot4).ext (wo_but but5)).ext (wo_but (But.of sb))
    obtain ⟨d', q', z'⟩ := o
    refine catT (hc1b.ext wo_same) (SqT.of upd_same) ?_ fun c2 H6 s6 hc2 => ?_
    · rw [List.length_take]
      have := Nat.min_le_right i.toNat xs.length
      show min i.toNat xs.length + 1 ≤ 1000000
      omega
    have sc := sb.trans s6
    have hs6 := (hs4.ext (wo_but but5)).ext (wo_but (But.of sc))
    have ha6 := ((ha3.same (wo_but (But.of s4))).same (wo_but but5)).same (wo_but (But.of sc))
    have q6 := q'.same (wo_but (But.of sc))
    have pot6 := pot5.same sc
    refine ⟨_, rfl, _, rfl, _, _, rfl, rfl, _, rfl, ?_⟩
    dsimp only [tNoPart]
    refine partT (hs6.ext wo_same) fun c3 H7 s7 hc3 => catT (hc2.ext s7) hc3 ?_ fun c4 H8 s8 hc4 => ?_
    · rw [cut_from (by omega), List.length_append, List.length_take, List.length_drop]
      have := Nat.min_le_right i.toNat xs.length
      show min i.toNat xs.length + 1 + _ ≤ 1000000
      omega
    rw [cut_from (by omega)] at hc4
    have sd := s7.trans s8
    have pot8 := pot6.same sd
    have e1 : (i + 1).toNat = i.toNat + 1 := by omega
    rw [e1] at hc4
    refine kk (.ref c4) H8 ⟨.tuple (ds.take i.toNat ++ [d'] ++ ds.drop (i.toNat + 1)), tupAt pot8 hc4 ?_, (si.other he z').tup⟩ (pot8.more (by omega)) (((((but3.same s4).trans but5).same sc).same sd))
    have h8 := ha6.same (wo_but (But.of sd))
    exact ((h8.part _).1.add (.cons (q6.same (wo_but (But.of sd))) .nil)).add (h8.part _).2
  · refine ⟨_, rfl, _, _, _, _, _, rfl, .ty _, ty, kit_ty kt, _, rfl, ?_⟩
    exact ⟨_, rfl, _, rfl, oddly pot (by omega) (But.refl _ _)⟩
end
end K09

set_option Elab.async false
set_option linter.all false
set_option maxRecDepth 100000
set_option maxHeartbeats 8000000
namespace K09
open PySem L2 Xby
def spDP (K : PySem.W.Frag) : Sp := fun vs H Q _ => ∃ (p : Addr) (many others n : Nat), vs = [.ref p, .int many, .int others] ∧ many ≤ 6 ∧ others ≤ 6 ∧ n + 20 ≤ 1000000 ∧ Pot H p n ∧
  ∀ a H' xs ps, SqT K H' a xs → Prs K H' xs ps → okPs ps = true → InB many others ps → Pot H' p (n + 20) → But p H H' → Q (.ref a) H'
def spLaid (K : PySem.W.Frag) (C : Addr) : Sp := fun vs H Q _ => ∃ (p one other : Addr) (hs ks : List Str) (rs qs : List (List V)) (n : Nat), vs = [.ref p, .ref one, .ref other] ∧ IsTab K C H one hs rs ∧ IsTab K C H other ks qs ∧ n + 40 ≤ 1000000 ∧ Pot H p n ∧
  ∀ a H' cs ps, Laid K H' a cs ps → okPs cs = true → okPs ps = true → InB hs.length ks.length cs → InB rs.length qs.length ps → (cs = [] → ps = []) → Pot H' p (n + 40) → But p H H' → Q (.ref a) H'
section
variable {P : Program} {w : World} {K : PySem.W.Frag} {mg : Str → Option Value} {base : Heap}
abbrev s_law_drawn_pairs : Stmt := top 48
theorem sc_law_drawn_pairs : FnScope ["_law_pot_here", "_law_many", "_law_others", "_law_left", "_law_found", "_law_i"] ["_law_pot_here", "_law_many", "_law_others"] (defScope s_law_drawn_pairs) := ⟨rfl, rfl, rfl, by decide +kernel, rfl, by decide +kernel, by decide +kernel⟩
theorem ok_dp {f fD : Addr} {fd fdD : FuncData} (F : Fun K "_law_drawn_pairs" "_law_drawn_pairs" s_law_drawn_pairs f fd) (T : Txt K mg)
    (c_law_draw : ∀ base, Ca P w K mg base CX0 "_law_draw" 1 ["_law_pot_here", "_law_many"] spDraw fD fdD) : FnOk P w K mg base CX0 2 f fd ["_law_pot_here", "_law_many", "_law_others"] (spDP K) := by
  have c_law_draw := c_law_draw base
  refine F.ok sc_law_drawn_pairs (fun vs H Q E h => ?_) (fun cdv A outer s H vs Q E hr h => ⟨_, (pss_cons (ps_par (i := 3) (j := 4) (by rfl) sc_law_drawn_pairs.nd rfl rfl (by decide) rfl rfl (pa_cons (pe_listRg rfl (by rfl) T.b_list (prg_1 (by rfl) T.b_range (pv 2))) (pa_cons (pe_lst pa_nil) pa_nil)) (by rfl))
    (pss_cons (ps_for PassesOwn.never rfl (pi_range1 (by rfl) T.b_range (pa_cons (pv 1) pa_nil)) (pg_name (i := 5) sc_law_drawn_pairs.nd rfl (Or.inl rfl)) (pss_one (ps_if (PW.pt (pw_and (pt_cmpR (op_neNilK K rfl hr.units0) (pv 3) (pe_lst pa_nil) (nomark _)) (pw_and1 (pt_cmpR op_gt (pe_call c_law_draw.G (hr.mono (by first | decide | omega)) (by rfl) c_law_draw.g c_law_draw.k c_law_draw.B .nil pass0 (pa_cons (pv 0) (pa_cons pe_int pa_nil))) pe_int (nomark _))))) (pss_one (ps_expr (pe_bm PySem.F.plainAttrs_list PySem.F.slot_list_append PySem.F.type_list_append mt_append (pv 4) (pa_cons (pe_tup (pa_cons (pv 5) (pa_cons (pe_bm PySem.F.plainAttrs_list PySem.F.slot_list_pop PySem.F.type_list_pop mt_popAt (pv 3) (pa_cons (pe_call c_law_draw.G (hr.mono (by first | decide | omega)) (by rfl) c_law_draw.g c_law_draw.k c_law_draw.B .nil pass0 (pa_cons (pv 0) (pa_cons (pe_callB (call_lenK K rfl) (by rfl) T.b_len (by decide +kernel) (pa_cons (pv 3) pa_nil)) pa_nil))) pa_nil)) pa_nil))) pa_nil)))) pss_nil)))
    (pss_one (ps_ret (pe_callTy (call_tupleK K rfl) (by rfl) T.b_tuple (by decide +kernel) (pa_cons (pv 4) pa_nil)))))), ?_⟩)
  · obtain ⟨_, _, _, _, rfl, _⟩ := h
    rfl
  obtain ⟨p, many, others, n, rfl, hm, ho, hn, pot, k⟩ := h
  refine ⟨_, rfl, _, rfl, RgOk.of_le (by decide) (by omega) (by decide) (by omega), fun A0 nA => ⟨by show 0 ≤ sizeLine; decide, fun B0 nB => ⟨_, _, rfl, ?_⟩⟩⟩
  have eA : rgV 0 (others : Int) = ((List.range others).map (fun i : Nat => (i : Int))).map V.int := by
    unfold rgV
    rw [List.map_map]
    have : ((others : Int) - 0).toNat = others := by omega
    rw [this]
    refine List.map_congr_left fun i _ => ?_
    show V.int (0 + (i : Int)) = V.int (i : Int)
    rw [Int.zero_add]
  rw [eA] at nB ⊢
  have AB : A0 ≠ B0 := fun e => by rw [← e, upd_same] at nB; cases nB
  have nB0 : H B0 = none := by rw [upd_ne AB.symm] at nB; exact nB
  have Ap : A0 ≠ p := (pot.ne nA).symm
  have Bp : B0 ≠ p := (pot.ne nB0).symm
  refine ⟨_, rfl, _, rfl, by omega, by omega, for_range (lo := 0) (n := (many : Int).toNat) (fun i σ H' => ∃ (o : Option V) (ls : List Int) (xs : List V) (ps : List (Int × Int)), σ = [some (.ref p), some (.int many), some (.int others), some (.ref A0), some (.ref B0), o] ∧
    H' A0 = some (.lst (ls.map V.int)) ∧ H' B0 = some (.lst xs) ∧ Prs K H' xs ps ∧ (ps.map (·.1)).Pairwise (· < ·) ∧ (∀ q ∈ ps, 0 ≤ q.1 ∧ q.1 < i) ∧ (ps.map (·.2) ++ ls).Perm ((List.range others).map (fun i : Nat => (i : Int))) ∧ Pot H' p (n + 2 * i) ∧ But p H H') ?_ ?_ ?_⟩
  · refine ⟨none, (List.range others).map (fun i : Nat => (i : Int)), [], [], rfl, ?_, upd_same, .nil, .nil, by simp, List.Perm.refl _, (pot.new nA).new nB, ((But.of (Same.one nA)).new nB)⟩
    rw [upd_ne AB]
    exact upd_same
  · rintro i σ H1 hi ⟨o, ls, xs, ps, rfl, hA, hB, prs, asc, lo, pm, pot1, but1⟩
    have hi : i < many := by omega
    have lw : ps.length + ls.length = others := by
      have := pm.length_eq
      rw [List.length_append, List.length_map, List.length_map, List.length_range] at this
      exact this
    refine ⟨_, rfl, by show 0 ≤ sizeLine; decide, fun e0 ne0 => ⟨A0, e0, _, rfl, rfl, SqL.of (Same.one ne0 _ _ hA), SqL.of upd_same, _, rfl, ?_⟩⟩
    have s2 := Same.one (o := .lst []) ne0
    have hA := s2 _ _ hA
    have hB := s2 _ _ hB
    have prs := prs.same s2
    have pot1 := pot1.same s2
    have but1 := but1.same s2
    generalize upd H1 e0 (.lst []) = H1 at hA hB prs pot1 but1 ⊢
    refine ite2 (fun hne => ?_) (fun hne => ?_)
    rotate_left
    · exact iteF ⟨_, ls, xs, ps, rfl, hA, hB, prs, asc, fun q hq => ⟨(lo q hq).1, by have := (lo q hq).2; omega⟩, pm, pot1.more (by omega), but1⟩
    have lpos : 0 < ls.length := by
      cases ls with
      | nil => exact absurd hne (by simp)
      | cons x xs => exact Nat.succ_pos _
    refine ⟨_, rfl, p, 4, n + 2 * i, rfl, ⟨by decide, by decide⟩, by omega, pot1, fun r H2 r0 r4 pot2 but2 => ⟨_, _, rfl, rfl, _, rfl, ?_⟩⟩
    have hA := but2 A0 _ Ap hA
    have hB := but2 B0 _ Bp hB
    have prs := prs.but pot1 but2
    have but2 := but1.trans but2
    refine ite2 (fun hgt => ?_) (fun hgt => ?_)
    rotate_left
    · exact ⟨_, ls, xs, ps, rfl, hA, hB, prs, asc, fun q hq => ⟨(lo q hq).1, by have := (lo q hq).2; omega⟩, pm, pot2.more (by omega), but2⟩
    refine ⟨_, rfl, .inl ⟨rfl, _, SqL.of hB⟩, _, rfl, _, rfl, .inl ⟨rfl, _, SqL.of hA⟩, _, rfl, _, rfl, _, _, rfl, .inl ⟨_, SqL.of hA, rfl⟩, p, _, n + 2 * i + 1, rfl, ⟨by rw [List.length_map]; omega, by rw [List.length_map]; omega⟩, by omega, pot2, fun r H3 r0 r1 pot3 but3 => ?_⟩
    rw [List.length_map] at r1
    have hA := but3 A0 _ Ap hA
    have hB := but3 B0 _ Bp hB
    have prs := prs.but pot2 but3
    have but3 := but2.trans but3
    have hr : r.toNat < ls.length := by omega
    have gy : (ls.map V.int)[r.toNat]? = some (.int ls[r.toNat]) := by simp [hr]
    have gi : seqIndex? r (ls.map V.int).length = some r.toNat := by
      unfold seqIndex?
      rw [List.length_map]
      simp only [Int.not_lt.mpr r0, if_false]
      rw [if_pos (by simp; omega)]
    refine ⟨A0, _, r, r.toNat, _, rfl, rfl, hA, by omega, by omega, gi, gy, ?_⟩
    have eE : (ls.map V.int).eraseIdx r.toNat = (ls.eraseIdx r.toNat).map V.int := erase_map _ _ _
    rw [eE]
    have hA4 : (upd H3 A0 (.lst ((ls.eraseIdx r.toNat).map V.int))) A0 = some (.lst ((ls.eraseIdx r.toNat).map V.int)) := upd_same
    have hB4 : (upd H3 A0 (.lst ((ls.eraseIdx r.toNat).map V.int))) B0 = some (.lst xs) := by rw [upd_ne AB.symm]; exact hB
    have prs4 : Prs K (upd H3 A0 (.lst ((ls.eraseIdx r.toNat).map V.int))) xs ps := prs.updL hA
    have pot4 := pot3.upd (o := .lst ((ls.eraseIdx r.toNat).map V.int)) Ap.symm
    have but4 := but3.updN (o := .lst ((ls.eraseIdx r.toNat).map V.int)) nA
    generalize upd H3 A0 (.lst ((ls.eraseIdx r.toNat).map V.int)) = H4 at hA4 hB4 prs4 pot4 but4 ⊢
    refine ⟨by show 2 ≤ sizeLine; decide, fun t nt => ?_⟩
    have s5 := Same.one (o := .tup [.int (0 + (i : Int)), .int ls[r.toNat]]) nt
    refine ⟨B0, _, _, rfl, rfl, s5 _ _ hB4, ?_, ?_⟩
    · rw [prs4.len]
      have : sizeLine = 16777216 := sizeLine_eq
      omega
    refine ⟨_, ls.eraseIdx r.toNat, xs ++ [.ref t], ps ++ [((i : Int), ls[r.toNat])], rfl, ?_, upd_same, ?_, ?_, ?_, ?_, ?_, ?_⟩
    · rw [upd_ne AB]
      exact s5 _ _ hA4
    · have tB : B0 ≠ t := ne_of_none hB4 nt
      refine Prs.snoc ((prs4.same s5).updL (s5 _ _ hB4)) (SqT.of ?_)
      rw [upd_ne tB.symm, upd_same, Int.zero_add]
    · rw [List.map_append]
      refine List.pairwise_append.mpr ⟨asc, by simp, fun x hx y hy => ?_⟩
      obtain ⟨q, hq, rfl⟩ := List.mem_map.mp hx
      obtain rfl : y = (i : Int) := by simpa using hy
      exact (lo q hq).2
    · intro q hq
      rcases List.mem_append.mp hq with hq | hq
      · exact ⟨(lo q hq).1, by have := (lo q hq).2; omega⟩
      · obtain rfl : q = ((i : Int), ls[r.toNat]) := by simpa using hq
        exact ⟨by show (0 : Int) ≤ i; omega, by show (i : Int) < ((i + 1 : Nat) : Int); omega⟩
    · rw [List.map_append]
      refine List.Perm.trans ?_ pm
      rw [List.append_assoc]
      exact List.Perm.append_left _ (Xby.erase_perm ls r.toNat hr)
    · exact ((pot4.same s5).upd Bp.symm).more (by omega)
    · exact (but4.same s5).updN nB0
  · rintro σ H1 ⟨o, ls, xs, ps, rfl, hA, hB, prs, asc, lo, pm, pot1, but1⟩
    have nd : ((List.range others).map (fun i : Nat => (i : Int))).Nodup := (List.nodup_range).map (fun i : Nat => (i : Int)) fun a b h e => h (by exact_mod_cast e)
    have nd2 := (List.nodup_append.mp (pm.nodup_iff.mpr nd)).1
    refine ⟨_, rfl, B0, _, rfl, .inl ⟨SqL.of hB, fun l nl => k l _ xs ps (SqT.of upd_same) (prs.same (Same.one nl)) ?_ (fun q hq => ⟨⟨(lo q hq).1, by have := (lo q hq).2; omega⟩, ?_⟩) ((pot1.new nl).more (by omega)) (but1.new nl)⟩⟩
    · unfold okPs
      rw [decide_eq_true asc, decide_eq_true nd2]
      rfl
    · have := pm.subset (List.mem_append_left ls (List.mem_map.mpr ⟨q, hq, rfl⟩))
      obtain ⟨j, hj, e⟩ := List.mem_map.mp this
      have := List.mem_range.mp hj
      omega
abbrev s_law_laid : Stmt := top 49
theorem sc_law_laid : FnScope ["_law_pot_here", "_law_first", "_law_second", "_law_heads"] ["_law_pot_here", "_law_first", "_law_second"] (defScope s_law_laid) := ⟨rfl, rfl, rfl, by decide +kernel, rfl, by decide +kernel, by decide +kernel⟩
theorem ok_laid {f fP : Addr} {fd fdP : FuncData} (F : Fun K "_law_laid" "_law_laid" s_law_laid f fd) (T : Txt K mg)
    (c_law_drawn_pairs : ∀ base, Ca P w K mg base CX0 "_law_drawn_pairs" 2 ["_law_pot_here", "_law_many", "_law_others"] (spDP K) fP fdP) : FnOk P w K mg base CX0 3 f fd ["_law_pot_here", "_law_first", "_law_second"] (spLaid K T.C) := by
  have c_law_drawn_pairs := c_law_drawn_pairs base
  refine F.ok sc_law_laid (fun vs H Q E h => ?_) (fun cdv A outer s H vs Q E hr h => ⟨_, (pss_cons (ps_set (i := 3) sc_law_laid.nd rfl (Or.inl rfl) (pe_call c_law_drawn_pairs.G (hr.mono (by first | decide | omega)) (by rfl) c_law_drawn_pairs.g c_law_drawn_pairs.k c_law_drawn_pairs.B .nil pass0 (pa_cons (pv 0) (pa_cons (pe_callB (call_lenK K rfl) (by rfl) T.b_len (by decide +kernel) (pa_cons (pe_fldK K rfl (pv 1) rfl) pa_nil)) (pa_cons (pe_callB (call_lenK K rfl) (by rfl) T.b_len (by decide +kernel) (pa_cons (pe_fldK K rfl (pv 2) rfl) pa_nil)) pa_nil)))))
    (pss_one (ps_ret (pe_tup (pa_cons (pv 3) (pa_cons (pe_ifExp (pt_cmpR (op_neNilT K rfl hr.units) (pv 3) (pe_tup pa_nil) (nomark _)) (pe_call c_law_drawn_pairs.G (hr.mono (by first | decide | omega)) (by rfl) c_law_drawn_pairs.g c_law_drawn_pairs.k c_law_drawn_pairs.B .nil pass0 (pa_cons (pv 0) (pa_cons (pe_callB (call_lenK K rfl) (by rfl) T.b_len (by decide +kernel) (pa_cons (pe_fldK K rfl (pv 1) rfl) pa_nil)) (pa_cons (pe_callB (call_lenK K rfl) (by rfl) T.b_len (by decide +kernel) (pa_cons (pe_fldK K rfl (pv 2) rfl) pa_nil)) pa_nil)))) (pe_tup pa_nil)) pa_nil)))))), ?_⟩)
  · obtain ⟨_, _, _, _, _, _, _, _, rfl, _⟩ := h
    rfl
  obtain ⟨p, one, other, hs, ks, rs, qs, n, rfl, t1, t2, hn, pot, k⟩ := h
  obtain ⟨l1, l2, l3⟩ := Tab.len t1
  obtain ⟨l4, l5, l6⟩ := Tab.len t2
  obtain ⟨dx, ac, ar, xr, u1⟩ := id t1
  obtain ⟨dx', ac', ar', xr', u2⟩ := id t2
  refine ⟨_, rfl, _, rfl, one, T.C, dx, _, _, rfl, u1.at_, T.cl, T.n_columns, l_columns .., _, _, rfl, .inr ⟨_, u1.c, rfl⟩, _, rfl, other, T.C, dx', _, _, rfl, u2.at_, T.cl, T.n_columns, l_columns .., _, _, rfl, .inr ⟨_, u2.c, rfl⟩, ?_⟩
  refine ⟨p, hs.length, ks.length, n, by rw [List.length_map, List.length_map]; rfl, by omega, by omega, by omega, pot, fun a1 H1 x1 cs sq1 pr1 ok1 in1 pot1 but1 => ?_⟩
  have t1 := t1.but pot but1
  have t2 := t2.but pot but1
  refine ⟨_, rfl, _, rfl, by show 0 ≤ sizeLine; decide, fun e0 ne0 => ⟨a1, e0, x1, rfl, rfl, sq1.ext (Same.one ne0), SqT.of upd_same, _, rfl, ?_⟩⟩
  have s2 := Same.one (o := .tup []) ne0
  have t1 := t1.same s2
  have t2 := t2.same s2
  have sq1 := sq1.ext s2
  have pr1 := pr1.same s2
  have pot1 := pot1.same s2
  have but1 := but1.same s2
  generalize upd H1 e0 (.tup []) = H1 at t1 t2 sq1 pr1 pot1 but1 ⊢
  have len1 := pr1.len
  refine ite2 (fun hne => ?_) (fun hne => ?_)
  · have ne : cs ≠ [] := by
      rintro rfl
      cases pr1
      exact absurd hne (by simp)
    obtain ⟨dx, ac, ar, xr, u1⟩ := id t1
    obtain ⟨dx', ac', ar', xr', u2⟩ := id t2
    refine ⟨_, rfl, _, rfl, one, T.C, dx, _, _, rfl, u1.at_, T.cl, T.n_rows, l_rows .., _, _, rfl, .inr ⟨_, u1.r, rfl⟩, _, rfl, other, T.C, dx', _, _, rfl, u2.at_, T.cl, T.n_rows, l_rows .., _, _, rfl, .inr ⟨_, u2.r, rfl⟩, ?_⟩
    refine ⟨p, rs.length, qs.length, n + 20, by rw [u1.rows.len, u2.rows.len]; rfl, by omega, by omega, by omega, pot1, fun a2 H2 x2 ps sq2 pr2 ok2 in2 pot2 but2 => ⟨by show 2 ≤ sizeLine; decide, fun t nt => ?_⟩⟩
    have s3 := Same.one (o := .tup [.ref a1, .ref a2]) nt
    exact k t _ cs ps ⟨a1, a2, x1, x2, SqT.of upd_same, (seqBut sq1 pot1 but2).ext s3, (pr1.but pot1 but2).same s3, sq2.ext s3, pr2.same s3⟩ ok1 ok2 in1 in2 (fun z => absurd z ne) (pot2.same s3) ((but1.trans but2).same s3)
  · have em : cs = [] := by
      cases pr1 with
      | nil => rfl
      | cons _ _ => exact absurd rfl hne
    refine ⟨by show 0 ≤ sizeLine; decide, fun e1 ne1 => ⟨by show 2 ≤ sizeLine; decide, fun t nt => ?_⟩⟩
    have s3 := Same.one (o := .tup [.ref a1, .ref e1]) nt
    have s4 := (Same.one (o := .tup []) ne1).trans s3
    exact k t _ cs [] ⟨a1, e1, x1, [], SqT.of upd_same, sq1.ext s4, pr1.same s4, SqT.of (s3 _ _ upd_same), .nil⟩ ok1 (by decide) in1 (by intro q hq; simp at hq) (fun _ => rfl) ((pot1.same s4).more (by omega)) (but1.same s4)
end
end K09

set_option Elab.async false
set_option linter.all false
set_option maxRecDepth 100000
set_option maxHeartbeats 8000000
namespace K09
open PySem L2 Xby
section
variable {P : Program} {w : World} {K : PySem.W.Frag} {mg : Str → Option Value} {base : Heap}
abbrev s_law_are_pairs : Stmt := top 50
theorem sc_law_are_pairs : FnScope ["_law_value", "_law_many", "_law_others", "_law_pair", "_law_lefts", "_law_rights"] ["_law_value", "_law_many", "_law_others"] (defScope s_law_are_pairs) := ⟨rfl, rfl, rfl, by decide +kernel, rfl, by decide +kernel, by decide +kernel⟩
theorem ok_lpairs {f fI : Addr} {fd fdI : FuncData} (F : Fun K "_law_are_pairs" "_law_are_pairs" s_law_are_pairs f fd) (T : Txt K mg)
    (c_law_is_int : ∀ base, Ca P w K mg base CX0 "_law_is_int" 1 ["_law_value", "_law_low", "_law_high"] (spWithin K) fI fdI) : FnOk P w K mg base CX0 2 f fd ["_law_value", "_law_many", "_law_others"] (spPairs6 K) := by
  have c_law_is_int := c_law_is_int base
  refine F.ok sc_law_are_pairs (fun vs H Q E h => ?_) (fun cdv A outer s H vs Q E hr h => ⟨_, (pss_cons (ps_if (pt_not (pt_val (pe_callB (call_isiK K rfl) (by rfl) T.b_isinstance (by decide +kernel) (pa_cons (pv 0) (pa_cons (pe_bltn (v := .ty "tuple") (by rfl) T.b_tuple (by decide +kernel) rfl) pa_nil))))) (pss_one (ps_ret pe_bl)) pss_nil)
    (pss_cons (ps_for PassesOwn.never rfl (pi_tupK K rfl (pv 0)) (pg_name (i := 3) sc_law_are_pairs.nd rfl (Or.inl rfl)) (pss_cons (ps_if (PW.pt (pw_or (pt_not (pt_val (pe_callB (call_isiK K rfl) (by rfl) T.b_isinstance (by decide +kernel) (pa_cons (pv 3) (pa_cons (pe_bltn (v := .ty "tuple") (by rfl) T.b_tuple (by decide +kernel) rfl) pa_nil))))) (pw_or1 (pt_cmpR op_ne (pe_callB (call_lenK K rfl) (by rfl) T.b_len (by decide +kernel) (pa_cons (pv 3) pa_nil)) pe_int (nomark _))))) (pss_one (ps_ret pe_bl)) pss_nil)
    (pss_one (ps_if (PW.pt (pw_or (pt_not (pt_val (pe_call c_law_is_int.G (hr.mono (by first | decide | omega)) (by rfl) c_law_is_int.g c_law_is_int.k c_law_is_int.B .nil pass0 (pa_cons (pe_ix (ix_tupK K rfl) (pv 3) pe_int (fun _ _ => rfl)) (pa_cons pe_int (pa_cons (pe_op op_sub (pv 1) pe_int) pa_nil)))))) (pw_or1 (pt_not (pt_val (pe_call c_law_is_int.G (hr.mono (by first | decide | omega)) (by rfl) c_law_is_int.g c_law_is_int.k c_law_is_int.B .nil pass0 (pa_cons (pe_ix (ix_tupK K rfl) (pv 3) pe_int (fun _ _ => rfl)) (pa_cons pe_int (pa_cons (pe_op op_sub (pv 2) pe_int) pa_nil))))))))) (pss_one (ps_ret pe_bl)) pss_nil))))
    (pss_cons (ps_par (i := 4) (j := 5) (by rfl) sc_law_are_pairs.nd rfl rfl (by decide) rfl rfl (pa_cons (pe_lc (own := [("_law_pair", 3)]) (g := gName 3) (tt := tYes) rfl sc_law_are_pairs.nd (pi_tupK K rfl (pv 0)) (blkOk_by (N := ["_law_value", "_law_many", "_law_others", "_law_pair", "_law_lefts", "_law_rights"]) (sc := defScope s_law_are_pairs) (by decide +kernel)) (fun _ _ _ _ _ => (pg_name (i := 3) sc_law_are_pairs.nd rfl (Or.inl rfl))) (fun _ _ _ _ _ => pts_nil) (fun _ _ _ _ _ => (pe_ix (ix_tupK K rfl) (pv 3) pe_int (fun _ _ => rfl)))) (pa_cons (pe_lc (own := [("_law_pair", 3)]) (g := gName 3) (tt := tYes) rfl sc_law_are_pairs.nd (pi_tupK K rfl (pv 0)) (blkOk_by (N := ["_law_value", "_law_many", "_law_others", "_law_pair", "_law_lefts", "_law_rights"]) (sc := defScope s_law_are_pairs) (by decide +kernel)) (fun _ _ _ _ _ => (pg_name (i := 3) sc_law_are_pairs.nd rfl (Or.inl rfl))) (fun _ _ _ _ _ => pts_nil) (fun _ _ _ _ _ => (pe_ix (ix_tupK K rfl) (pv 3) pe_int (fun _ _ => rfl)))) pa_nil)) (by rfl))
    (pss_one (ps_ret (pe_and (pe_cmpR (op_eqDK K rfl hr.units) (pv 4) (pe_callB (cr_sortedSetK w rfl rfl) (by rfl) T.b_sorted (by decide +kernel) (pa_cons (pe_callTy (call_setL K w rfl rfl rfl) (by rfl) T.b_set (by decide +kernel) (pa_cons (pv 4) pa_nil)) pa_nil)) (nomark _)) (pe_one (pe_cmpR op_eq (pe_callB (call_lenS w rfl) (by rfl) T.b_len (by decide +kernel) (pa_cons (pe_callTy (call_setL K w rfl rfl rfl) (by rfl) T.b_set (by decide +kernel) (pa_cons (pv 5) pa_nil)) pa_nil)) (pe_callB (call_lenK K rfl) (by rfl) T.b_len (by decide +kernel) (pa_cons (pv 5) pa_nil)) (nomark _))))))))), ?_⟩)
  · obtain ⟨_, _, _, _, rfl, _⟩ := h
    rfl
  obtain ⟨v, d, m, o, rfl, m6, hd, few, k⟩ := h
  rcases hd.isTup with ⟨a, xs, ds, rfl, rfl, hs, ha⟩ | ⟨T', ty, kt, no⟩
  · have len := ha.len
    have few : ds.length ≤ 1000 := few ds rfl
    have line : xs.length < sizeLine := by have : sizeLine = 16777216 := sizeLine_eq; omega
    have ek : pairsD m o (.tuple ds) = (ds.all (pairD m o) && okPs (ds.map Xby.prD)) := rfl
    rw [ek] at k
    have stop : ∀ {H' : Hp} {i : Nat} {e : PyData}, ds[i]? = some e → pairD m o e = false → Same H H' → Q (.bl false) H' := fun {H' i e} he hp s => by
      have : ds.all (pairD m o) = false := by
        rw [← Bool.not_eq_true, List.all_eq_true]
        exact fun z => by have := z e (List.mem_of_getElem? he); rw [hp] at this; cases this
      have z := k H' s
      rw [this, Bool.false_and] at z
      exact z
    refine ⟨_, rfl, _, _, _, _, _, rfl, .ty _, tyTup hs, kit_ty kit_tt, _, rfl, ?_⟩
    refine ⟨_, rfl, a, rfl, ⟨_, hs⟩, for_tup (K := K) (a := a) (xs := xs) (fun i σ H' => ∃ o1 o2 o3 : Option V, σ = [some (.ref a), some (.int m), some (.int o), o1, o2, o3] ∧ H' = H ∧ ∀ j e, j < i → ds[j]? = some e → pairD m o e = true)
      ⟨none, none, none, rfl, rfl, fun j e hj _ => absurd hj (Nat.not_lt_zero j)⟩ (fun i σ H' _ ⟨_, _, _, _, z, _⟩ => by rw [z]; exact hs) ?_ ?_⟩
    · rintro i v σ H2 hi ⟨o1, o2, o3, rfl, rfl, before⟩
      obtain ⟨e, he, hq⟩ := ha.get hi
      rcases hq.isTup with ⟨b, xb, es, rfl, rfl, hb, hab⟩ | ⟨T', ty, kt, no⟩
      · have lb := hab.len
        refine ⟨_, rfl, _, _, _, _, _, rfl, .ty _, tyTup hb, kit_ty kit_tt, _, rfl, ?_⟩
        refine ⟨_, rfl, _, _, rfl, .inr ⟨xb, hb, rfl⟩, rfl, _, rfl, ite2 (fun hn => ?_) (fun hn => ?_)⟩
        · have ne : es.length ≠ 2 := fun z => by
            rw [lb, z] at hn
            simp at hn
          exact stop he (pairD_len ne) (Same.refl _)
        have two : xb.length = 2 := by
          have : V.int ((xb.length : Nat) : Int) = V.int 2 := by simpa using hn
          have := V.int.inj this
          omega
        obtain ⟨x0, x1, rfl⟩ : ∃ x0 x1, xb = [x0, x1] := by
          match xb, two with
          | [x0, x1], _ => exact ⟨x0, x1, rfl⟩
        cases hab with
        | @cons _ _ d0 _ q0 r0 =>
          cases r0 with
          | @cons _ _ d1 _ q1 r1 =>
            cases r1
            have ep := pairD_two m o d0 d1
            rw [← q0.okV, ← q1.okV] at ep
            refine ⟨_, rfl, b, _, 0, x0, rfl, rfl, hb, rfl, _, rfl, _, _, rfl, rfl, x0, d0, 0, (m : Int) - 1, rfl, q0, _, rfl, ?_⟩
            cases h0 : okV 0 ((m : Int) - 1) x0 with
            | false =>
              rw [h0, Bool.false_and] at ep
              exact stop he ep (Same.refl _)
            | true =>
              rw [h0, Bool.true_and] at ep
              refine ⟨_, rfl, b, _, 1, x1, rfl, rfl, hb, rfl, _, rfl, _, _, rfl, rfl, x1, d1, 0, (o : Int) - 1, rfl, q1, _, rfl, ?_⟩
              cases h1 : okV 0 ((o : Int) - 1) x1 with
              | false =>
                rw [h1] at ep
                exact stop he ep (Same.refl _)
              | true =>
                rw [h1] at ep
                refine ⟨_, _, _, rfl, rfl, fun j e' hj he' => ?_⟩
                rcases Nat.lt_succ_iff_lt_or_eq.mp hj with hj | rfl
                · exact before j e' hj he'
                · rw [he] at he'
                  rw [← Option.some.inj he']
                  exact ep
      · refine ⟨_, rfl, _, _, _, _, _, rfl, .ty _, ty, kit_ty kt, _, rfl, ?_⟩
        exact stop he (pairD_not no) (Same.refl _)
    · rintro σ H2 ⟨o1, o2, o3, rfl, rfl, all⟩
      have hall : ds.all (pairD m o) = true := by
        rw [List.all_eq_true]
        intro e he
        obtain ⟨j, hj⟩ := List.getElem?_of_mem he
        refine all j e ?_ hj
        rw [len]
        exact (List.getElem?_eq_some_iff.mp hj).1
      rw [hall, Bool.true_and] at k
      obtain ⟨prs, _, inb⟩ := Prs.of ha hall
      generalize ds.map Xby.prD = ps at prs k inb
      have lp := prs.len
      refine ⟨_, rfl, a, rfl, ⟨_, hs⟩, fun D1 nD1 => lc_growT hs nD1 line (fun i => .int (ps.getD i (0, 0)).1) (fun _ => true) (fun i x H2 Z N hx s2 kz _ => ?_) (fun H1 s1 hD1 => ?_)⟩
      · obtain ⟨b, rfl, _, hb⟩ := prs.get hx
        exact ⟨rfl, _, rfl, b, _, 0, _, rfl, rfl, hb.ext s2, rfl, kz H2 (Same.refl _) rfl⟩
      rw [lp, kept_map ps (0, 0) (fun q => V.int q.1)] at hD1
      have e1 : ps.map (fun q => V.int q.1) = (ps.map (·.1)).map V.int := by rw [List.map_map]; rfl
      rw [e1] at hD1
      refine ⟨_, rfl, a, rfl, ⟨_, hs.ext s1⟩, fun D2 nD2 => lc_growT (hs.ext s1) nD2 line (fun i => .int (ps.getD i (0, 0)).2) (fun _ => true) (fun i x H2 Z N hx s2 kz _ => ?_) (fun H2 s2 hD2 => ?_)⟩
      · obtain ⟨b, rfl, _, hb⟩ := prs.get hx
        exact ⟨rfl, _, rfl, b, _, 1, _, rfl, rfl, hb.ext (s1.trans s2), rfl, kz H2 (Same.refl _) rfl⟩
      rw [lp, kept_map ps (0, 0) (fun q => V.int q.2)] at hD2
      have e2 : ps.map (fun q => V.int q.2) = (ps.map (·.2)).map V.int := by rw [List.map_map]; rfl
      rw [e2] at hD2
      have hD1 := s2 _ _ hD1
      have s3 := s1.trans s2
      refine ⟨_, _, rfl, _, rfl, _, rfl, D1, ps.map (·.1), rfl, SqL.of hD1, by rw [List.length_map]; omega, fun p1 c1 np1 _ _ lc1 => ⟨p1, _, c1, rfl, upd_same, ?_, fun ns q1 asc mem ln nq1 => ?_⟩⟩
      · have := lc1 ((List.range m).map fun i : Nat => (i : Int)) fun x hx => by
          obtain ⟨q, hq, rfl⟩ := List.mem_map.mp hx
          have := (inb q hq).1
          exact List.mem_map.mpr ⟨q.1.toNat, List.mem_range.mpr (by omega), by omega⟩
        rw [List.length_map, List.length_range] at this
        omega
      have s4 := Same.upd s3 (o := SetO w p1 (fun j => decide (j ∈ ps.map (·.1))) c1) np1
      have hD1 := Same.one (o := SetO w p1 (fun j => decide (j ∈ ps.map (·.1))) c1) np1 _ _ hD1
      have hD2 := Same.one (o := SetO w p1 (fun j => decide (j ∈ ps.map (·.1))) c1) np1 _ _ hD2
      generalize upd H2 p1 (SetO w p1 (fun j => decide (j ∈ ps.map (·.1))) c1) = H3 at s4 hD1 hD2 nq1 ⊢
      have s5 := Same.upd s4 (o := .lst (ns.map V.int)) nq1
      have hD1 := Same.one (o := .lst (ns.map V.int)) nq1 _ _ hD1
      have hD2 := Same.one (o := .lst (ns.map V.int)) nq1 _ _ hD2
      have hq1 : (upd H3 q1 (.lst (ns.map V.int))) q1 = some (.lst (ns.map V.int)) := upd_same
      generalize upd H3 q1 (.lst (ns.map V.int)) = H4 at s5 hD1 hD2 hq1 ⊢
      refine ⟨.list ((ps.map (·.1)).map PyData.int), .list (ns.map PyData.int), dp_ints hD1, dp_ints hq1, shaped_ints _, shaped_ints _, _, rfl, ?_⟩
      rw [eqv_ints]
      have eq : decide (ps.map (·.1) = ns) = decide ((ps.map (·.1)).Pairwise (· < ·)) := by
        congr 1
        refine propext ⟨fun z => by rw [z]; exact asc, fun z => asc_unique z asc fun x => ?_⟩
        rw [mem x]
        simp
      rw [eq]
      refine ite2 (fun hp => ?_) (fun hp => ?_)
      · refine ⟨_, rfl, D2, ps.map (·.2), rfl, SqL.of hD2, by rw [List.length_map]; omega, fun p c np hc1 hc2 _ => ⟨p, _, c, rfl, upd_same, ?_, _, rfl, _, _, rfl, .inl ⟨_, SqL.of (Same.one np _ _ hD2), rfl⟩, rfl, ?_⟩⟩
        · rw [List.length_map] at hc1
          omega
        · have e4 : decide (V.int (c : Int) = V.int ((((ps.map (·.2)).map V.int).length : Nat) : Int)) = decide (ps.map (·.2)).Nodup := by
            congr 1
            rw [List.length_map]
            refine propext ⟨fun z => hc2.mp ?_, fun z => by rw [hc2.mpr z]⟩
            have := V.int.inj z
            omega
          have := k (upd H4 p (SetO w p (fun j => decide (j ∈ ps.map (·.2))) c)) (Same.upd s5 np)
          unfold okPs at this
          rw [hp, Bool.true_and, ← e4] at this
          exact this
      · have := k _ s5
        unfold okPs at this
        rw [Bool.eq_false_iff.mpr hp, Bool.false_and] at this
        exact this
  · refine ⟨_, rfl, _, _, _, _, _, rfl, .ty _, ty, kit_ty kt, _, rfl, ?_⟩
    have e : pairsD m o d = false := by
      cases d with
      | tuple ds => exact absurd rfl (no ds)
      | _ => rfl
    rw [e] at k
    exact k H (Same.refl H)
abbrev s_law_is_laid : Stmt := top 51
theorem sc_law_is_laid : FnScope ["_law_first", "_law_second", "_law_value"] ["_law_first", "_law_second", "_law_value"] (defScope s_law_is_laid) := ⟨rfl, rfl, rfl, by decide +kernel, rfl, by decide +kernel, by decide +kernel⟩
theorem ok_lislaid {f fP : Addr} {fd fdP : FuncData} (F : Fun K "_law_is_laid" "_law_is_laid" s_law_is_laid f fd) (T : Txt K mg)
    (c_law_are_pairs : ∀ base, Ca P w K mg base CX0 "_law_are_pairs" 2 ["_law_value", "_law_many", "_law_others"] (spPairs6 K) fP fdP) : FnOk P w K mg base CX0 3 f fd ["_law_first", "_law_second", "_law_value"] (spIsAl K T.C) := by
  have c_law_are_pairs := c_law_are_pairs base
  refine F.ok sc_law_is_laid (fun vs H Q E h => ?_) (fun cdv A outer s H vs Q E hr h => ⟨_, (pss_cons (ps_if (PW.pt (pw_or (pt_not (pt_val (pe_callB (call_isiK K rfl) (by rfl) T.b_isinstance (by decide +kernel) (pa_cons (pv 2) (pa_cons (pe_bltn (v := .ty "tuple") (by rfl) T.b_tuple (by decide +kernel) rfl) pa_nil))))) (pw_or1 (pt_cmpR op_ne (pe_callB (call_lenK K rfl) (by rfl) T.b_len (by decide +kernel) (pa_cons (pv 2) pa_nil)) pe_int (nomark _))))) (pss_one (ps_ret pe_bl)) pss_nil)
    (pss_cons (ps_if (pt_not (pt_val (pe_call c_law_are_pairs.G (hr.mono (by first | decide | omega)) (by rfl) c_law_are_pairs.g c_law_are_pairs.k c_law_are_pairs.B .nil pass0 (pa_cons (pe_ix (ix_tupK K rfl) (pv 2) pe_int (fun _ _ => rfl)) (pa_cons (pe_callB (call_lenK K rfl) (by rfl) T.b_len (by decide +kernel) (pa_cons (pe_fldK K rfl (pv 0) rfl) pa_nil)) (pa_cons (pe_callB (call_lenK K rfl) (by rfl) T.b_len (by decide +kernel) (pa_cons (pe_fldK K rfl (pv 1) rfl) pa_nil)) pa_nil)))))) (pss_one (ps_ret pe_bl)) pss_nil)
    (pss_cons (ps_if (pt_not (pt_val (pe_call c_law_are_pairs.G (hr.mono (by first | decide | omega)) (by rfl) c_law_are_pairs.g c_law_are_pairs.k c_law_are_pairs.B .nil pass0 (pa_cons (pe_ix (ix_tupK K rfl) (pv 2) pe_int (fun _ _ => rfl)) (pa_cons (pe_callB (call_lenK K rfl) (by rfl) T.b_len (by decide +kernel) (pa_cons (pe_fldK K rfl (pv 0) rfl) pa_nil)) (pa_cons (pe_callB (call_lenK K rfl) (by rfl) T.b_len (by decide +kernel) (pa_cons (pe_fldK K rfl (pv 1) rfl) pa_nil)) pa_nil)))))) (pss_one (ps_ret pe_bl)) pss_nil)
    (pss_one (ps_ret (pe_or (pe_cmpR (op_neNilT K rfl hr.units) (pe_ix (ix_tupK K rfl) (pv 2) pe_int (fun _ _ => rfl)) (pe_tup pa_nil) (nomark _)) (pe_one (pe_cmpR (op_nilT K rfl hr.units0) (pe_ix (ix_tupK K rfl) (pv 2) pe_int (fun _ _ => rfl)) (pe_tup pa_nil) (nomark _))))))))), ?_⟩)
  · obtain ⟨_, _, _, _, _, _, _, _, rfl, _⟩ := h
    rfl
  obtain ⟨one, other, v, d, hs, ks, rs, qs, rfl, t1, t2, hd, few, k⟩ := h
  obtain ⟨l1, l2, l3⟩ := Tab.len t1
  rcases hd.isTup with ⟨a, xs, ds, rfl, rfl, hx, ha⟩ | ⟨T', ty, kt, no⟩
  · have len := ha.len
    refine ⟨_, rfl, _, _, _, _, _, rfl, .ty _, tyTup hx, kit_ty kit_tt, _, rfl, ?_⟩
    refine ⟨_, rfl, _, _, rfl, .inr ⟨xs, hx, rfl⟩, rfl, _, rfl, ite2 (fun h2 => ?_) (fun h2 => ?_)⟩
    · have ne : ds.length ≠ 2 := fun z => by
        rw [len, z] at h2
        simp at h2
      rw [laidD_len ne] at k
      exact k H (Same.refl H)
    · have two : xs.length = 2 := by
        have : V.int ((xs.length : Nat) : Int) = V.int 2 := by simpa using h2
        have := V.int.inj this
        omega
      obtain ⟨x0, x1, rfl⟩ : ∃ x0 x1, xs = [x0, x1] := by
        match xs, two with
        | [x0, x1], _ => exact ⟨x0, x1, rfl⟩
      cases ha with
      | @cons _ _ d0 _ q0 r0 =>
        cases r0 with
        | @cons _ _ d1 _ q1 r1 =>
          cases r1
          obtain ⟨dx, ac, ar, xr, t1⟩ := t1
          obtain ⟨dx', ac', ar', xr', t2⟩ := t2
          have ek : laidD hs.length ks.length rs.length qs.length (.tuple [d0, d1]) = (pairsD hs.length ks.length d0 && pairsD rs.length qs.length d1 && (!nilD d0 || nilD d1)) := rfl
          rw [ek] at k
          refine ⟨_, rfl, a, _, 0, x0, rfl, rfl, hx, rfl, _, rfl, one, T.C, dx, _, _, rfl, t1.at_, T.cl, T.n_columns, l_columns .., _, _, rfl, .inr ⟨_, t1.c, rfl⟩, _, rfl, other, T.C, dx', _, _, rfl, t2.at_, T.cl, T.n_columns, l_columns .., _, _, rfl, .inr ⟨_, t2.c, rfl⟩, ?_⟩
          refine ⟨x0, d0, hs.length, ks.length, by rw [List.length_map, List.length_map]; rfl, by omega, q0, few _ rfl d0 (by simp), fun H1 s1 => ⟨_, rfl, ?_⟩⟩
          cases h0 : pairsD hs.length ks.length d0 with
          | false =>
            rw [h0, Bool.false_and, Bool.false_and] at k
            exact k H1 s1
          | true =>
            rw [h0, Bool.true_and] at k
            refine ⟨_, rfl, a, _, 1, x1, rfl, rfl, hx.ext s1, rfl, _, rfl, one, T.C, dx, _, _, rfl, s1 _ _ t1.at_, T.cl, T.n_rows, l_rows .., _, _, rfl, .inr ⟨_, t1.r.ext s1, rfl⟩, _, rfl, other, T.C, dx', _, _, rfl, s1 _ _ t2.at_, T.cl, T.n_rows, l_rows .., _, _, rfl, .inr ⟨_, t2.r.ext s1, rfl⟩, ?_⟩
            refine ⟨x1, d1, rs.length, qs.length, by rw [t1.rows.len, t2.rows.len]; rfl, by omega, q1.same s1, few _ rfl d1 (by simp), fun H2 s2 => ⟨_, rfl, ?_⟩⟩
            have s3 := s1.trans s2
            cases h1 : pairsD rs.length qs.length d1 with
            | false =>
              rw [h1, Bool.false_and] at k
              exact k H2 s3
            | true =>
              rw [h1, Bool.true_and] at k
              obtain ⟨c0, z0, e0, rfl, rfl, hc0, ha0⟩ := pairs_tup q0 h0
              obtain ⟨c1, z1, e1, rfl, rfl, hc1, ha1⟩ := pairs_tup q1 h1
              refine ⟨_, rfl, a, _, 0, _, rfl, rfl, hx.ext s3, rfl, by show 0 ≤ sizeLine; decide, fun n0 nn0 => ⟨c0, n0, z0, rfl, rfl, (hc0.ext s3).ext (Same.one nn0), SqT.of upd_same, _, rfl, ?_⟩⟩
              have s4 := Same.upd s3 (o := .tup []) nn0
              generalize upd H2 n0 (.tup []) = H3 at s4 ⊢
              have em0 : z0.isEmpty = nilD (.tuple e0) := nilD_of ha0
              rw [em0]
              refine ite2 (fun hz => ?_) (fun hz => ?_)
              · have := k H3 s4
                rw [hz, Bool.true_or] at this
                exact this
              · refine ⟨_, rfl, a, _, 1, _, rfl, rfl, hx.ext s4, rfl, by show 0 ≤ sizeLine; decide, fun n1 nn1 => ⟨c1, n1, z1, rfl, rfl, (hc1.ext s4).ext (Same.one nn1), SqT.of upd_same, ?_⟩⟩
                have em1 : z1.isEmpty = nilD (.tuple e1) := nilD_of ha1
                rw [em1]
                have := k _ (Same.upd s4 (o := .tup []) nn1)
                rw [Bool.eq_false_iff.mpr hz, Bool.false_or] at this
                exact this
  · refine ⟨_, rfl, _, _, _, _, _, rfl, .ty _, ty, kit_ty kt, _, rfl, ?_⟩
    have e : laidD hs.length ks.length rs.length qs.length d = false := by
      cases d with
      | tuple ds => exact absurd rfl (no ds)
      | _ => rfl
    rw [e] at k
    exact k H (Same.refl H)
end
end K09

set_option Elab.async false
set_option linter.all false
set_option maxRecDepth 100000
set_option maxHeartbeats 4000000
namespace K09
open PySem L2 Xby
def spCheckAl (K : PySem.W.Frag) (C EA : Addr) : Sp := fun vs H Q E => ∃ (one other : Addr) (v : V) (d : PyData) (hs ks : List Str) (rs qs : List (List V)), vs = [.ref one, .ref other, v] ∧ IsTab K C H one hs rs ∧ IsTab K C H other ks qs ∧ Dq K H v d ∧ Few1 d ∧
  (laidD hs.length ks.length rs.length qs.length d = false → ∀ (e : Addr) H', Same H H' → H' e = some (.xd [(("value" : Str), v)]) → E (.ref EA) (some e) H') ∧
  (laidD hs.length ks.length rs.length qs.length d = true → ∀ H', Same H H' → Q .non H')
section
variable {P : Program} {w : World} {K : PySem.W.Frag} {mg : Str → Option Value} {base : Heap}
abbrev s_check_alignment : Stmt := top 19
theorem sc_check_alignment : FnScope ["one", "other", "value"] ["one", "other", "value"] (defScope s_check_alignment) := ⟨rfl, rfl, rfl, by decide +kernel, rfl, by decide +kernel, by decide +kernel⟩
theorem ok_checkal {f fA : Addr} {fd fdA : FuncData} (F : Fun K "check_alignment" "check_alignment" s_check_alignment f fd) (T : TxtA K mg)
    (c_is_alignment : ∀ base, Ca P w K mg base CX0 "is_alignment" 6 ["one", "other", "value"] (spIsAl K T.C) fA fdA) : FnOk P w K mg base (L2.CX P w) 7 f fd ["one", "other", "value"] (spCheckAl K T.C T.EA) := by
  have c_is_alignment := c_is_alignment base
  refine F.okX sc_check_alignment (fun vs H Q E h => ?_) (fun cdv A outer s H vs Q E hr h => ⟨_, (pss_one (ps_if (pt_not (pt_val (pe_call c_is_alignment.G (hr.mono (by first | decide | omega)) (by rfl) c_is_alignment.g c_is_alignment.k c_is_alignment.B .nil pass0 (pa_cons (pv 0) (pa_cons (pv 1) (pa_cons (pv 2) pa_nil)))))) (pss_one (L2.LowV.ps_raiseLow rfl T.eA hr (takes_of rfl rfl rfl rfl) (by exact (pa_cons (pv 2) pa_nil)))) pss_nil)), ?_⟩)
  · obtain ⟨_, _, _, _, _, _, _, _, rfl, _⟩ := h
    rfl
  obtain ⟨one, other, v, d, hs, ks, rs, qs, rfl, t1, t2, hd, few, kE, k⟩ := h
  refine ⟨_, rfl, _, rfl, _, rfl, one, other, v, d, hs, ks, rs, qs, rfl, t1, t2, hd, few, fun H1 s1 => ⟨_, rfl, ?_⟩⟩
  cases hl : laidD hs.length ks.length rs.length qs.length d with
  | false => exact ⟨_, rfl, v, rfl, fun d' nd => kE hl d' _ (Same.upd s1 nd) upd_same⟩
  | true => exact k hl H1 s1
end
end K09

set_option Elab.async false
set_option linter.all false
set_option maxRecDepth 100000
set_option maxHeartbeats 8000000
namespace K09
open PySem L2 Xby
def spMany (K : PySem.W.Frag) (C : Addr) : Sp := fun vs H Q _ => ∃ (a : Addr) (hs : List Str) (rs : List (List V)) (row : Bool), vs = [.ref a, .str (kn row)] ∧ IsTab K C H a hs rs ∧ Q (.int (if row then rs.length else hs.length)) H
def spPON (K : PySem.W.Frag) : Sp := fun vs H Q _ => ∃ (v : V) (d : PyData) (m : Nat), vs = [v, .int m] ∧ Dq K H v d ∧ Q (.bl (okO m d)) H
def spCond (K : PySem.W.Frag) (C : Addr) : Sp := fun vs H Q _ => ∃ (one other : Addr) (v : V) (d : PyData) (hs ks : List Str) (rs qs : List (List V)), vs = [.ref one, .ref other, v] ∧ IsTab K C H one hs rs ∧ IsTab K C H other ks qs ∧ Dq K H v d ∧
  Q (.bl (condD hs.length ks.length rs.length qs.length d)) H
def spCheckC (K : PySem.W.Frag) (C EB : Addr) : Sp := fun vs H Q E => ∃ (one other : Addr) (v : V) (d : PyData) (xs : List V) (hs ks : List Str) (rs qs : List (List V)), vs = [.ref one, .ref other, v] ∧ IsTab K C H one hs rs ∧ IsTab K C H other ks qs ∧ Its K H v d xs ∧
  (∀ u, badConds hs.length ks.length rs.length qs.length v d xs = some u → ∀ (e : Addr) H', Same H H' → H' e = some (.xd [(("value" : Str), u)]) → E (.ref EB) (some e) H') ∧
  (badConds hs.length ks.length rs.length qs.length v d xs = none → ∀ H', Same H H' → Q .non H')
def spTrue (K : PySem.W.Frag) : Sp := fun vs H Q _ => ∃ (a : Addr) (xs : List V) (ps : List (Int × Int)) (i j : Option Int), vs = [.ref a, vO i, vO j] ∧ SqT K H a xs ∧ Prs K H xs ps ∧ ps.length ≤ 1000 ∧ (i ≠ none ∨ j ≠ none) ∧ ∀ H', Same H H' → Q (.bl (holdsP ps i j)) H'
def spPK (K : PySem.W.Frag) : Sp := fun vs H Q _ => ∃ (a c : Addr) (xs ys : List V) (ps : List (Int × Int)) (l : List Cnd) (row : Bool), vs = [.ref a, .ref c, .str (kn row)] ∧ SqT K H a xs ∧ Prs K H xs ps ∧ ps.length ≤ 1000 ∧ SqT K H c ys ∧ Cnds K H ys l ∧ l.length ≤ 1000 ∧
  ∀ H', Same H H' → Q (.bl (keepP ps row l)) H'
def spKC (K : PySem.W.Frag) : Sp := fun vs H Q _ => ∃ (a c : Addr) (ys : List V) (cs ps : List (Int × Int)) (l : List Cnd), vs = [.ref a, .ref c] ∧ Laid K H a cs ps ∧ cs.length ≤ 1000 ∧ ps.length ≤ 1000 ∧ SqT K H c ys ∧ Cnds K H ys l ∧ l.length ≤ 1000 ∧
  ∀ H', Same H H' → Q (.bl (keepB cs ps l)) H'
/-- what is kept, of data -/
def keepD (d c : PyData) : Bool := match d, c with
  | .tuple [.tuple a, .tuple b], .tuple ds => keepB (a.map Xby.prD) (b.map Xby.prD) (ds.map cndD)
  | _, _ => false
def spKeeps (K : PySem.W.Frag) (C EA EB : Addr) : Sp := fun vs H Q E => ∃ (one other : Addr) (v u : V) (d c : PyData) (xs : List V) (hs ks : List Str) (rs qs : List (List V)), vs = [.ref one, .ref other, v, u] ∧ IsTab K C H one hs rs ∧ IsTab K C H other ks qs ∧ Dq K H v d ∧ Few1 d ∧ Its K H u c xs ∧
  (laidD hs.length ks.length rs.length qs.length d = false → ∀ (e : Addr) H', Same H H' → H' e = some (.xd [(("value" : Str), v)]) → E (.ref EA) (some e) H') ∧
  (laidD hs.length ks.length rs.length qs.length d = true → ∀ z, badConds hs.length ks.length rs.length qs.length u c xs = some z → ∀ (e : Addr) H', Same H H' → H' e = some (.xd [(("value" : Str), z)]) → E (.ref EB) (some e) H') ∧
  (laidD hs.length ks.length rs.length qs.length d = true → badConds hs.length ks.length rs.length qs.length u c xs = none → ∀ H', Same H H' → Q (.bl (keepD d c)) H')
section
variable {P : Program} {w : World} {K : PySem.W.Frag} {mg : Str → Option Value} {base : Heap}
abbrev s_how_many_places : Stmt := top 15
theorem sc_how_many_places : FnScope ["table", "kind"] ["table", "kind"] (defScope s_how_many_places) := ⟨rfl, rfl, rfl, by decide +kernel, rfl, by decide +kernel, by decide +kernel⟩
theorem ok_many {f : Addr} {fd : FuncData} (F : Fun K "how_many_places" "how_many_places" s_how_many_places f fd) (T : TxtA K mg) : FnOk P w K mg base CX0 1 f fd ["table", "kind"] (spMany K T.C) := by
  refine F.ok sc_how_many_places (fun vs H Q E h => ?_) (fun cdv A outer s H vs Q E hr h => ⟨_, (pss_one (ps_ret (pe_ifExp (pt_cmpR op_eq (pv 1) pe_str (nomark _)) (pe_callB (call_lenK K rfl) (by rfl) T.b_len (by decide +kernel) (pa_cons (pe_fldK K rfl (pv 0) rfl) pa_nil)) (pe_callB (call_lenK K rfl) (by rfl) T.b_len (by decide +kernel) (pa_cons (pe_fldK K rfl (pv 0) rfl) pa_nil))))), ?_⟩)
  · obtain ⟨_, _, _, _, rfl, _⟩ := h
    rfl
  obtain ⟨a, hs, rs, row, rfl, ⟨dx, ac, ar, xr, t⟩, k⟩ := h
  refine ⟨_, rfl, rfl, _, rfl, ite2 (fun hk => ?_) (fun hk => ?_)⟩
  · cases row with
    | true => exact absurd hk (by decide +kernel)
    | false => exact ⟨_, rfl, a, T.C, dx, _, _, rfl, t.at_, T.cl, T.n_columns, l_columns .., _, _, rfl, .inr ⟨_, t.c, rfl⟩, by rw [List.length_map]; exact k⟩
  · cases row with
    | false => exact absurd (by decide +kernel) hk
    | true => exact ⟨_, rfl, a, T.C, dx, _, _, rfl, t.at_, T.cl, T.n_rows, l_rows .., _, _, rfl, .inr ⟨_, t.r, rfl⟩, by rw [t.rows.len]; exact k⟩
abbrev s_is_place_or_none : Stmt := top 20
theorem sc_is_place_or_none : FnScope ["value", "many"] ["value", "many"] (defScope s_is_place_or_none) := ⟨rfl, rfl, rfl, by decide +kernel, rfl, by decide +kernel, by decide +kernel⟩
theorem ok_pon {f fP : Addr} {fd fdP : FuncData} (F : Fun K "is_place_or_none" "is_place_or_none" s_is_place_or_none f fd) (T : TxtA K mg)
    (c_is_place : ∀ base, Ca P w K mg base CX0 "is_place" 3 ["value", "many"] (spPlace K) fP fdP) : FnOk P w K mg base CX0 4 f fd ["value", "many"] (spPON K) := by
  have c_is_place := c_is_place base
  refine F.ok sc_is_place_or_none (fun vs H Q E h => ?_) (fun cdv A outer s H vs Q E hr h => ⟨_, (pss_one (ps_ret (pe_or (pe_cmpR op_isN (pv 0) pe_non (nomark _)) (pe_one (pe_call c_is_place.G (hr.mono (by first | decide | omega)) (by rfl) c_is_place.g c_is_place.k c_is_place.B .nil pass0 (pa_cons (pv 0) (pa_cons (pv 1) pa_nil))))))), ?_⟩)
  · obtain ⟨_, _, _, rfl, _⟩ := h
    rfl
  obtain ⟨v, d, m, rfl, hd, k⟩ := h
  have ek : okO m d = (nonD d || intD 0 ((m : Int) - 1) d) := rfl
  rw [ek, ← hd.okV] at k
  refine ⟨_, rfl, rfl, _, rfl, ite2 (fun hn => ?_) (fun hn => ?_)⟩
  · obtain rfl := of_decide_eq_true hn
    cases hd
    exact k
  · have nn : nonD d = false := by
      cases hd with
      | non => exact absurd (decide_eq_true rfl) hn
      | _ => rfl
    rw [nn, Bool.false_or] at k
    exact ⟨_, rfl, _, rfl, v, d, m, rfl, hd, k⟩
abbrev s_is_condition : Stmt := top 21
theorem sc_is_condition : FnScope ["one", "other", "value", "kind", "i", "j", "truth"] ["one", "other", "value"] (defScope s_is_condition) := ⟨rfl, rfl, rfl, by decide +kernel, rfl, by decide +kernel, by decide +kernel⟩
theorem ok_cond {f fP fM : Addr} {fd fdP fdM : FuncData} (F : Fun K "is_condition" "is_condition" s_is_condition f fd) (T : TxtA K mg)
    (c_is_place_or_none : ∀ base, Ca P w K mg base CX0 "is_place_or_none" 4 ["value", "many"] (spPON K) fP fdP) (c_how_many_places : ∀ base, Ca P w K mg base CX0 "how_many_places" 1 ["table", "kind"] (spMany K T.C) fM fdM) : FnOk P w K mg base CX0 5 f fd ["one", "other", "value"] (spCond K T.C) := by
  have c_is_place_or_none := c_is_place_or_none base
  have c_how_many_places := c_how_many_places base
  refine F.ok sc_is_condition (fun vs H Q E h => ?_) (fun cdv A outer s H vs Q E hr h => ⟨_, (pss_cons (ps_if (PW.pt (pw_or (pt_not (pt_val (pe_callB (call_isiK K rfl) (by rfl) T.b_isinstance (by decide +kernel) (pa_cons (pv 2) (pa_cons (pe_bltn (v := .ty "tuple") (by rfl) T.b_tuple (by decide +kernel) rfl) pa_nil))))) (pw_or1 (pt_cmpR op_ne (pe_callB (call_lenK K rfl) (by rfl) T.b_len (by decide +kernel) (pa_cons (pv 2) pa_nil)) pe_int (nomark _))))) (pss_one (ps_ret pe_bl)) pss_nil)
    (pss_cons (ps_asg (pv 2) (pg_tupK K rfl rfl (pgs_cons (pg_name (i := 3) sc_is_condition.nd rfl (Or.inl rfl)) (pgs_cons (pg_name (i := 4) sc_is_condition.nd rfl (Or.inl rfl)) (pgs_cons (pg_name (i := 5) sc_is_condition.nd rfl (Or.inl rfl)) (pgs_cons (pg_name (i := 6) sc_is_condition.nd rfl (Or.inl rfl)) pgs_nil))))))
    (pss_cons (ps_if (PW.pt (pw_or (pt_cmpR (op_notInTx K rfl hr.units) (pv 3) (pe_glob (v := .ref T.KN) rfl T.c_KINDS rfl) (by rfl)) (pw_or (pt_not (pt_val (pe_callB (call_isiK K rfl) (by rfl) T.b_isinstance (by decide +kernel) (pa_cons (pv 6) (pa_cons (pe_bltn (v := .ty "bool") (by rfl) T.b_bool (by decide +kernel) rfl) pa_nil))))) (pw_or1 (PW.pt (pw_and (pt_cmpR op_isN (pv 4) pe_non (nomark _)) (pw_and1 (pt_cmpR op_isN (pv 5) pe_non (nomark _))))))))) (pss_one (ps_ret pe_bl)) pss_nil)
    (pss_one (ps_ret (pe_and (pe_call c_is_place_or_none.G (hr.mono (by first | decide | omega)) (by rfl) c_is_place_or_none.g c_is_place_or_none.k c_is_place_or_none.B .nil pass0 (pa_cons (pv 4) (pa_cons (pe_call c_how_many_places.G (hr.mono (by first | decide | omega)) (by rfl) c_how_many_places.g c_how_many_places.k c_how_many_places.B .nil pass0 (pa_cons (pv 0) (pa_cons (pv 3) pa_nil))) pa_nil))) (pe_one (pe_call c_is_place_or_none.G (hr.mono (by first | decide | omega)) (by rfl) c_is_place_or_none.g c_is_place_or_none.k c_is_place_or_none.B .nil pass0 (pa_cons (pv 5) (pa_cons (pe_call c_how_many_places.G (hr.mono (by first | decide | omega)) (by rfl) c_how_many_places.g c_how_many_places.k c_how_many_places.B .nil pass0 (pa_cons (pv 1) (pa_cons (pv 3) pa_nil))) pa_nil)))))))))), ?_⟩)
  · obtain ⟨_, _, _, _, _, _, _, _, rfl, _⟩ := h
    rfl
  obtain ⟨one, other, v, d, hs, ks, rs, qs, rfl, t1, t2, hd, k⟩ := h
  rcases hd.isTup with ⟨a, xs, ds, rfl, rfl, hx, ha⟩ | ⟨T', ty, kt, no⟩
  · have len := ha.len
    refine ⟨_, rfl, _, _, _, _, _, rfl, .ty _, tyTup hx, kit_ty kit_tt, _, rfl, ?_⟩
    refine ⟨_, rfl, _, _, rfl, .inr ⟨xs, hx, rfl⟩, rfl, _, rfl, ite2 (fun h2 => ?_) (fun h2 => ?_)⟩
    · have ne : ds.length ≠ 4 := fun z => by
        rw [len, z] at h2
        simp at h2
      rw [cond_len ne] at k
      exact k
    have two : xs.length = 4 := by
      have : V.int ((xs.length : Nat) : Int) = V.int 4 := by simpa using h2
      have := V.int.inj this
      omega
    obtain ⟨x0, x1, x2, x3, rfl⟩ : ∃ x0 x1 x2 x3, xs = [x0, x1, x2, x3] := by
      match xs, two with
      | [x0, x1, x2, x3], _ => exact ⟨x0, x1, x2, x3, rfl⟩
    cases ha with
    | @cons _ _ d0 _ q0 r0 =>
      cases r0 with
      | @cons _ _ d1 _ q1 r1 =>
        cases r1 with
        | @cons _ _ d2 _ q2 r2 =>
          cases r2 with
          | @cons _ _ d3 _ q3 r3 =>
            cases r3
            have ek : condD hs.length ks.length rs.length qs.length (.tuple [d0, d1, d2, d3]) = ((["column", "row"] : List Str).any (isTxt d0) && boolD d3 && !(nonD d1 && nonD d2) && (okO (if isTxt d0 "column" then hs.length else rs.length) d1 && okO (if isTxt d0 "column" then ks.length else qs.length) d2)) := rfl
            rw [ek] at k
            refine ⟨_, rfl, a, _, rfl, hx, rfl, _, _, rfl, _, _, rfl, _, _, rfl, _, _, rfl, rfl, ?_⟩
            refine ⟨_, rfl, T.KN, ["column", "row"], d0, rfl, T.kinds H, q0, _, rfl, ?_⟩
            cases hkd : (["column", "row"] : List Str).any (isTxt d0) with
            | false =>
              rw [hkd, Bool.false_and, Bool.false_and, Bool.false_and] at k
              exact k
            | true =>
              rw [hkd, Bool.true_and] at k
              have isb : ∀ {Z : Bool → Hp → Prop}, Z (boolD d3) H → rIsi K [x3, .ty "bool"] H (fun v H' => ∃ b, v = .bl b ∧ Z b H') := fun {Z} z => by
                rcases q3.kind with ⟨b, rfl⟩ | ⟨i, rfl⟩ | ⟨T', ty, ⟨kb, _⟩, _⟩
                · cases q3
                  exact ⟨_, _, _, _, _, rfl, .ty _, .base (.bl b), kit_ty kit_bb, _, rfl, z⟩
                · cases q3
                  exact ⟨_, _, _, _, _, rfl, .ty _, .base (.int i), kit_ty kit_ib, _, rfl, z⟩
                · have nb : boolD d3 = false := by
                    cases q3 with
                    | bl b => cases ty with | base t => cases t; exact absurd kb (by decide +kernel)
                    | _ => rfl
                  rw [nb] at z
                  exact ⟨_, _, _, _, _, rfl, .ty _, ty, kit_ty kb, _, rfl, z⟩
              refine ⟨_, rfl, isb ?_⟩
              cases hb : boolD d3 with
              | false =>
                rw [hb, Bool.false_and, Bool.false_and] at k
                exact k
              | true =>
                rw [hb, Bool.true_and] at k
                have non1 : decide (x1 = V.non) = nonD d1 := by cases q1 <;> rfl
                have non2 : decide (x2 = V.non) = nonD d2 := by cases q2 <;> rfl
                obtain ⟨e0, _, col⟩ := txt_is q0 hkd
                have fin : (!(nonD d1 && nonD d2)) = true → tRet (tAndV (tCall (spPON K) [] E0 (tCons (tVar 4) (tCons (tCall (spMany K T.C) [] E0 (tCons (tVar 0) (tCons (tVar 3) tNil))) tNil))) (tCall (spPON K) [] E0 (tCons (tVar 5) (tCons (tCall (spMany K T.C) [] E0 (tCons (tVar 1) (tCons (tVar 3) tNil))) tNil)))) { nx := fun _ H' => Q .non H', rt := Q } [some (.ref one), some (.ref other), some (.ref a), some x0, some x1, some x2, some x3] H := fun hn => by
                  rw [hn, Bool.true_and, col] at k
                  refine ⟨_, rfl, _, rfl, _, rfl, one, hs, rs, isTxt d0 "row", by rw [e0]; rfl, t1, x1, d1, (if isTxt d0 "row" = true then rs.length else hs.length), by cases isTxt d0 "row" <;> rfl, q1, _, rfl, ?_⟩
                  have i1 : okO (if isTxt d0 "row" = true then rs.length else hs.length) d1 = okO (if (!isTxt d0 "row") = true then hs.length else rs.length) d1 := by cases isTxt d0 "row" <;> rfl
                  rw [i1]
                  cases h1 : okO (if (!isTxt d0 "row") = true then hs.length else rs.length) d1 with
                  | false =>
                    rw [h1, Bool.false_and] at k
                    exact k
                  | true =>
                    rw [h1, Bool.true_and] at k
                    refine ⟨_, rfl, _, rfl, _, rfl, other, ks, qs, isTxt d0 "row", by rw [e0]; rfl, t2, x2, d2, (if isTxt d0 "row" = true then qs.length else ks.length), by cases isTxt d0 "row" <;> rfl, q2, ?_⟩
                    have i2 : okO (if isTxt d0 "row" = true then qs.length else ks.length) d2 = okO (if (!isTxt d0 "row") = true then ks.length else qs.length) d2 := by cases isTxt d0 "row" <;> rfl
                    rw [i2]
                    exact k
                refine ⟨_, rfl, rfl, _, rfl, ?_⟩
                rw [non1]
                cases h1 : nonD d1 with
                | false => exact fin (by rw [h1]; rfl)
                | true =>
                  refine ⟨_, rfl, rfl, _, rfl, ?_⟩
                  rw [non2]
                  cases h2 : nonD d2 with
                  | false => exact fin (by rw [h1, h2]; rfl)
                  | true =>
                    rw [h1, h2] at k
                    exact k
  · refine ⟨_, rfl, _, _, _, _, _, rfl, .ty _, ty, kit_ty kt, _, rfl, ?_⟩
    have e : condD hs.length ks.length rs.length qs.length d = false := by
      cases d with
      | tuple ds => exact absurd rfl (no ds)
      | _ => rfl
    rw [e] at k
    exact k
end
end K09

set_option Elab.async false
set_option linter.all false
set_option maxRecDepth 100000
set_option maxHeartbeats 8000000
namespace K09
open PySem L2 Xby
section
variable {P : Program} {w : World} {K : PySem.W.Frag} {mg : Str → Option Value} {base : Heap}
abbrev s_check_conditions : Stmt := top 22
theorem sc_check_conditions : FnScope ["one", "other", "value", "condition"] ["one", "other", "value"] (defScope s_check_conditions) := ⟨rfl, rfl, rfl, by decide +kernel, rfl, by decide +kernel, by decide +kernel⟩
theorem ok_checkc {f fC : Addr} {fd fdC : FuncData} (F : Fun K "check_conditions" "check_conditions" s_check_conditions f fd) (T : TxtA K mg)
    (c_is_condition : ∀ base, Ca P w K mg base CX0 "is_condition" 5 ["one", "other", "value"] (spCond K T.C) fC fdC) : FnOk P w K mg base (L2.CX P w) 6 f fd ["one", "other", "value"] (spCheckC K T.C T.EB) := by
  have c_is_condition := c_is_condition base
  refine F.okX sc_check_conditions (fun vs H Q E h => ?_) (fun cdv A outer s H vs Q E hr h => ⟨_, (pss_cons (ps_if (PW.pt (pw_or (pt_not (pt_val (pe_callB (call_isiK K rfl) (by rfl) T.b_isinstance (by decide +kernel) (pa_cons (pv 2) (pa_cons (pe_bltn (v := .ty "tuple") (by rfl) T.b_tuple (by decide +kernel) rfl) pa_nil))))) (pw_or1 (pt_cmpR op_gt (pe_callB (call_lenK K rfl) (by rfl) T.b_len (by decide +kernel) (pa_cons (pv 2) pa_nil)) (pe_glob (v := .int 40) rfl T.c_MOST_CONDITIONS ⟨_, rfl⟩) (nomark _))))) (pss_one (L2.LowV.ps_raiseLow rfl T.eB hr (takes_of rfl rfl rfl rfl) (by exact (pa_cons (pv 2) pa_nil)))) pss_nil)
    (pss_one (ps_for (passes_of rfl) rfl (pi_tupK K rfl (pv 2)) (pg_name (i := 3) sc_check_conditions.nd rfl (Or.inl rfl)) (pss_one (ps_if (pt_not (pt_val (pe_call c_is_condition.G (hr.mono (by first | decide | omega)) (by rfl) c_is_condition.g c_is_condition.k c_is_condition.B .nil pass0 (pa_cons (pv 0) (pa_cons (pv 1) (pa_cons (pv 3) pa_nil)))))) (pss_one (L2.LowV.ps_raiseLow rfl T.eB hr (takes_of rfl rfl rfl rfl) (by exact (pa_cons (pv 3) pa_nil)))) pss_nil))))), ?_⟩)
  · obtain ⟨_, _, _, _, _, _, _, _, _, rfl, _⟩ := h
    rfl
  obtain ⟨one, other, v, d, xs, hs, ks, rs, qs, rfl, t1, t2, its, kE, k⟩ := h
  rcases its.h.isTup with ⟨_, _, ds, _, e, _, _⟩ | ⟨T', ty, kt, no⟩
  · subst e
    obtain ⟨a, rfl, hx, ha⟩ := its.x ds rfl
    have len := ha.len
    refine ⟨_, rfl, _, _, _, _, _, rfl, .ty _, tyTup hx, kit_ty kit_tt, _, rfl, ?_⟩
    refine ⟨_, rfl, _, _, rfl, .inr ⟨xs, hx, rfl⟩, _, _, rfl, rfl, _, rfl, ite2 (fun h => ?_) (fun h => ?_)⟩
    · have m : 40 < ds.length := by
        have := of_decide_eq_true h
        omega
      refine ⟨_, rfl, _, rfl, fun d' nd => kE _ ?_ d' _ (Same.upd (Same.refl _) nd) upd_same⟩
      exact if_pos m
    have m : ¬ 40 < ds.length := fun z => h (decide_eq_true (by omega))
    have eb : badConds hs.length ks.length rs.length qs.length (.ref a) (.tuple ds) xs = badIn (condD hs.length ks.length rs.length qs.length) xs ds := if_neg m
    refine ⟨_, rfl, a, rfl, ⟨_, hx⟩, for_tup (K := K) (a := a) (xs := xs) (fun i σ H' => ∃ o, σ = [some (.ref one), some (.ref other), some (.ref a), o] ∧ H' = H ∧ ∀ j e, j < i → ds[j]? = some e → condD hs.length ks.length rs.length qs.length e = true)
      ⟨none, rfl, rfl, fun j e hj _ => absurd hj (Nat.not_lt_zero j)⟩ (fun i σ H' _ ⟨_, _, z, _⟩ => by rw [z]; exact hx) ?_ ?_⟩
    · rintro i v σ H2 hi ⟨o, rfl, rfl, before⟩
      obtain ⟨e, he, hq⟩ := ha.get hi
      refine ⟨_, rfl, _, rfl, _, rfl, one, other, v, e, hs, ks, rs, qs, rfl, t1, t2, hq, _, rfl, ?_⟩
      cases hc : condD hs.length ks.length rs.length qs.length e with
      | true =>
        refine ⟨_, rfl, rfl, fun j e' hj he' => ?_⟩
        rcases Nat.lt_succ_iff_lt_or_eq.mp hj with hj | rfl
        · exact before j e' hj he'
        · rw [he] at he'
          rw [← Option.some.inj he']
          exact hc
      | false => exact ⟨_, rfl, v, rfl, fun d' nd => kE v (by rw [eb]; exact badIn_at hi he before hc) d' _ (Same.upd (Same.refl _) nd) upd_same⟩
    · rintro σ H2 ⟨o, rfl, rfl, all⟩
      refine k ?_ _ (Same.refl _)
      rw [eb]
      refine badIn_no ?_
      rw [List.all_eq_true]
      intro e he
      obtain ⟨j, hj⟩ := List.getElem?_of_mem he
      refine all j e ?_ hj
      rw [len]
      exact (List.getElem?_eq_some_iff.mp hj).1
  · refine ⟨_, rfl, _, _, _, _, _, rfl, .ty _, ty, kit_ty kt, _, rfl, ?_⟩
    refine ⟨_, rfl, _, rfl, fun d' nd => kE _ ?_ d' _ (Same.upd (Same.refl _) nd) upd_same⟩
    cases d with
    | tuple ds => exact absurd rfl (no ds)
    | _ => rfl
abbrev s_is_true_of_pairs : Stmt := top 23
theorem sc_is_true_of_pairs : FnScope ["pairs", "i", "j", "place", "_"] ["pairs", "i", "j"] (defScope s_is_true_of_pairs) := ⟨rfl, rfl, rfl, by decide +kernel, rfl, by decide +kernel, by decide +kernel⟩
theorem ok_true {f : Addr} {fd : FuncData} (F : Fun K "is_true_of_pairs" "is_true_of_pairs" s_is_true_of_pairs f fd) (T : TxtA K mg) : FnOk P w K mg base CX0 1 f fd ["pairs", "i", "j"] (spTrue K) := by
  refine F.ok sc_is_true_of_pairs (fun vs H Q E h => ?_) (fun cdv A outer s H vs Q E hr h => ⟨_, (pss_cons (ps_if (pt_cmpR op_isN (pv 2) pe_non (nomark _)) (pss_one (ps_ret (pe_cmpR (op_notInK K rfl) (pv 1) (pe_lc (own := [("place", 3), ("_", 4)]) (g := gTup K 2 (gCons (gName 3) (gCons (gName 4) gNil))) (tt := tYes) rfl sc_is_true_of_pairs.nd (pi_tupK K rfl (pv 0)) (blkOk_by (N := ["pairs", "i", "j", "place", "_"]) (sc := defScope s_is_true_of_pairs) (by decide +kernel)) (fun _ _ _ _ _ => (pg_tupK K rfl rfl (pgs_cons (pg_name (i := 3) sc_is_true_of_pairs.nd rfl (Or.inl rfl)) (pgs_cons (pg_name (i := 4) sc_is_true_of_pairs.nd rfl (Or.inl rfl)) pgs_nil)))) (fun _ _ _ _ _ => pts_nil) (fun _ _ _ _ _ => (pv 3))) (by rfl)))) pss_nil)
    (pss_cons (ps_if (pt_cmpR op_isN (pv 1) pe_non (nomark _)) (pss_one (ps_ret (pe_cmpR (op_notInK K rfl) (pv 2) (pe_lc (own := [("_", 4), ("place", 3)]) (g := gTup K 2 (gCons (gName 4) (gCons (gName 3) gNil))) (tt := tYes) rfl sc_is_true_of_pairs.nd (pi_tupK K rfl (pv 0)) (blkOk_by (N := ["pairs", "i", "j", "place", "_"]) (sc := defScope s_is_true_of_pairs) (by decide +kernel)) (fun _ _ _ _ _ => (pg_tupK K rfl rfl (pgs_cons (pg_name (i := 4) sc_is_true_of_pairs.nd rfl (Or.inl rfl)) (pgs_cons (pg_name (i := 3) sc_is_true_of_pairs.nd rfl (Or.inl rfl)) pgs_nil)))) (fun _ _ _ _ _ => pts_nil) (fun _ _ _ _ _ => (pv 3))) (by rfl)))) pss_nil)
    (pss_one (ps_ret (pe_cmpR (op_inDT K rfl (hu65 hr)) (pe_tup (pa_cons (pv 1) (pa_cons (pv 2) pa_nil))) (pv 0) (by rfl)))))), ?_⟩)
  · obtain ⟨_, _, _, _, _, rfl, _⟩ := h
    rfl
  obtain ⟨a, xs, ps, i, j, rfl, hx, prs, few, nn, k⟩ := h
  have lp := prs.len
  have line : xs.length < sizeLine := by have : sizeLine = 16777216 := sizeLine_eq; omega
  cases j with
  | none =>
    cases i with
    | none => exact absurd rfl (nn.resolve_left (fun z => z rfl))
    | some i =>
      refine ⟨_, rfl, rfl, _, rfl, ?_⟩
      refine ⟨_, rfl, _, rfl, a, rfl, ⟨_, hx⟩, fun D nD => lc_growT hx nD line (fun i => .int (ps.getD i (0, 0)).1) (fun _ => true) (fun i x H2 Z N hi s2 kz _ => ?_) (fun H1 s1 hD => ?_)⟩
      · obtain ⟨b, rfl, _, hb⟩ := prs.get hi
        exact ⟨b, _, rfl, hb.ext s2, rfl, _, _, rfl, _, _, rfl, rfl, rfl, _, rfl, kz H2 (Same.refl _) rfl⟩
      rw [lp, kept_map ps (0, 0) (fun q => V.int q.1)] at hD
      have e1 : ps.map (fun q => V.int q.1) = (ps.map (·.1)).map V.int := by rw [List.map_map]; rfl
      rw [e1] at hD
      refine ⟨D, _, rfl, .inl (SqL.of hD), rfl, flat_ints _, ?_⟩
      have := k H1 s1
      show Q (.bl (!inV (.int i) _)) H1
      rw [inV_ints]
      have e2 : holdsP ps (some i) none = !decide (i ∈ ps.map (·.1)) := by
        show decide _ = _
        rw [decide_not]
      rw [← e2]
      exact this
  | some j =>
    refine ⟨_, rfl, rfl, _, rfl, ?_⟩
    cases i with
    | none =>
      refine ⟨_, rfl, rfl, _, rfl, ?_⟩
      refine ⟨_, rfl, _, rfl, a, rfl, ⟨_, hx⟩, fun D nD => lc_growT hx nD line (fun i => .int (ps.getD i (0, 0)).2) (fun _ => true) (fun i x H2 Z N hi s2 kz _ => ?_) (fun H1 s1 hD => ?_)⟩
      · obtain ⟨b, rfl, _, hb⟩ := prs.get hi
        exact ⟨b, _, rfl, hb.ext s2, rfl, _, _, rfl, _, _, rfl, rfl, rfl, _, rfl, kz H2 (Same.refl _) rfl⟩
      rw [lp, kept_map ps (0, 0) (fun q => V.int q.2)] at hD
      have e1 : ps.map (fun q => V.int q.2) = (ps.map (·.2)).map V.int := by rw [List.map_map]; rfl
      rw [e1] at hD
      refine ⟨D, _, rfl, .inl (SqL.of hD), rfl, flat_ints _, ?_⟩
      have := k H1 s1
      show Q (.bl (!inV (.int j) _)) H1
      rw [inV_ints]
      have e2 : holdsP ps none (some j) = !decide (j ∈ ps.map (·.2)) := by
        show decide _ = _
        rw [decide_not]
      rw [← e2]
      exact this
    | some i =>
      refine ⟨_, rfl, rfl, _, rfl, ?_⟩
      refine ⟨_, rfl, _, rfl, by show 2 ≤ sizeLine; decide, fun t nt => ⟨_, rfl, datP (i, j), ps.map datP, .tup (SqT.of upd_same) (.cons (.int i) (.cons (.int j) .nil)), .tup (hx.ext (Same.one nt)) (prs.same (Same.one nt)).dp, (shaped_pair _).shaped (by decide), shaped_pairs ps, ?_⟩⟩
      rw [any_pair]
      exact k _ (Same.one nt)
abbrev s_pairs_keep : Stmt := top 24
theorem sc_pairs_keep : FnScope ["pairs", "conditions", "kind", "about", "i", "j", "truth"] ["pairs", "conditions", "kind"] (defScope s_pairs_keep) := ⟨rfl, rfl, rfl, by decide +kernel, rfl, by decide +kernel, by decide +kernel⟩
theorem ok_pk {f fT : Addr} {fd fdT : FuncData} (F : Fun K "pairs_keep" "pairs_keep" s_pairs_keep f fd) (T : TxtA K mg)
    (c_is_true_of_pairs : ∀ base, Ca P w K mg base CX0 "is_true_of_pairs" 1 ["pairs", "i", "j"] (spTrue K) fT fdT) : FnOk P w K mg base CX0 2 f fd ["pairs", "conditions", "kind"] (spPK K) := by
  have c_is_true_of_pairs := c_is_true_of_pairs base
  refine F.ok sc_pairs_keep (fun vs H Q E h => ?_) (fun cdv A outer s H vs Q E hr h => ⟨_, (pss_one (ps_ret (pe_callB (cr_allK K rfl rfl) (by rfl) T.b_all (by decide +kernel) (pa_cons (pe_lc (own := [("about", 3), ("i", 4), ("j", 5), ("truth", 6)]) (g := gTup K 4 (gCons (gName 3) (gCons (gName 4) (gCons (gName 5) (gCons (gName 6) gNil))))) rfl sc_pairs_keep.nd (pi_tupK K rfl (pv 1)) (blkOk_by (N := ["pairs", "conditions", "kind", "about", "i", "j", "truth"]) (sc := defScope s_pairs_keep) (by decide +kernel)) (fun _ _ _ _ _ => (pg_tupK K rfl rfl (pgs_cons (pg_name (i := 3) sc_pairs_keep.nd rfl (Or.inl rfl)) (pgs_cons (pg_name (i := 4) sc_pairs_keep.nd rfl (Or.inl rfl)) (pgs_cons (pg_name (i := 5) sc_pairs_keep.nd rfl (Or.inl rfl)) (pgs_cons (pg_name (i := 6) sc_pairs_keep.nd rfl (Or.inl rfl)) pgs_nil)))))) (fun _ _ _ _ _ => pts_one (pt_cmpR op_eq (pv 3) (pv 2) (nomark _))) (fun _ _ _ _ _ => (pe_cmpR op_eq (pe_call c_is_true_of_pairs.G (hr.mono (by first | decide | omega)) (by rfl) c_is_true_of_pairs.g c_is_true_of_pairs.k c_is_true_of_pairs.B .nil pass0 (pa_cons (pv 0) (pa_cons (pv 4) (pa_cons (pv 5) pa_nil)))) (pv 6) (nomark _)))) pa_nil)))), ?_⟩)
  · obtain ⟨_, _, _, _, _, _, _, rfl, _⟩ := h
    rfl
  obtain ⟨a, c, xs, ys, ps, l, row, rfl, hx, prs, few, hy, cn, fewl, k⟩ := h
  have ll := cn.len
  have line : ys.length < sizeLine := by have : sizeLine = 16777216 := sizeLine_eq; omega
  refine ⟨_, rfl, c, rfl, ⟨_, hy⟩, fun D nD => lc_growT hy nD line (fun i => .bl (holdsP ps (l.getD i cnd0).i (l.getD i cnd0).j == (l.getD i cnd0).t)) (fun i => (l.getD i cnd0).row == row) (fun i x H2 Z N hi s2 kz kn' => ?_) (fun H1 s1 hD => ?_)⟩
  · obtain ⟨b, rfl, _, hb, nn⟩ := cn.get hi
    refine ⟨b, _, rfl, hb.ext s2, rfl, _, _, rfl, _, _, rfl, _, _, rfl, _, _, rfl, rfl, rfl, _, rfl, _, rfl, rfl, _, rfl, ?_⟩
    have ed : decide (V.str (kn (l.getD i cnd0).row) = V.str (kn row)) = ((l.getD i cnd0).row == row) := by
      cases (l.getD i cnd0).row <;> cases row <;> decide +kernel
    rw [ed]
    cases hr' : ((l.getD i cnd0).row == row) with
    | false => exact kn' H2 (Same.refl _) hr'
    | true =>
      refine ⟨_, rfl, _, rfl, _, rfl, a, xs, ps, _, _, rfl, hx.ext s2, prs.same s2, few, nn, fun H3 s3 => ⟨_, rfl, rfl, ?_⟩⟩
      have eb : ∀ p q : Bool, decide (V.bl p = V.bl q) = (p == q) := by decide
      rw [eb]
      exact kz H3 s3 hr'
  · rw [ll, kept_filter cnd0 (fun c => V.bl (holdsP ps c.i c.j == c.t)) (fun c => c.row == row)] at hD
    refine ⟨D, (l.filter fun c => c.row == row).map fun c => (holdsP ps c.i c.j == c.t), rfl, SqL.of (by rw [List.map_map]; exact hD), ?_⟩
    have e1 : ((l.filter fun c => c.row == row).map fun c => (holdsP ps c.i c.j == c.t)).all id = keepP ps row l := by rw [List.all_map]; rfl
    rw [e1]
    exact k _ s1
abbrev s_keeps_conditions : Stmt := top 25
theorem sc_keeps_conditions : FnScope ["alignment", "conditions", "columns", "rows"] ["alignment", "conditions"] (defScope s_keeps_conditions) := ⟨rfl, rfl, rfl, by decide +kernel, rfl, by decide +kernel, by decide +kernel⟩
theorem ok_kc {f fP : Addr} {fd fdP : FuncData} (F : Fun K "keeps_conditions" "keeps_conditions" s_keeps_conditions f fd) (T : TxtA K mg)
    (c_pairs_keep : ∀ base, Ca P w K mg base CX0 "pairs_keep" 2 ["pairs", "conditions", "kind"] (spPK K) fP fdP) : FnOk P w K mg base CX0 3 f fd ["alignment", "conditions"] (spKC K) := by
  have c_pairs_keep := c_pairs_keep base
  refine F.ok sc_keeps_conditions (fun vs H Q E h => ?_) (fun cdv A outer s H vs Q E hr h => ⟨_, (pss_cons (ps_asg (pv 0) (pg_tupK K rfl rfl (pgs_cons (pg_name (i := 2) sc_keeps_conditions.nd rfl (Or.inl rfl)) (pgs_cons (pg_name (i := 3) sc_keeps_conditions.nd rfl (Or.inl rfl)) pgs_nil))))
    (pss_one (ps_ret (pe_and (pe_call c_pairs_keep.G (hr.mono (by first | decide | omega)) (by rfl) c_pairs_keep.g c_pairs_keep.k c_pairs_keep.B .nil pass0 (pa_cons (pv 2) (pa_cons (pv 1) (pa_cons pe_str pa_nil)))) (pe_one (pe_call c_pairs_keep.G (hr.mono (by first | decide | omega)) (by rfl) c_pairs_keep.g c_pairs_keep.k c_pairs_keep.B .nil pass0 (pa_cons (pv 3) (pa_cons (pv 1) (pa_cons pe_str pa_nil))))))))), ?_⟩)
  · obtain ⟨_, _, _, _, _, _, rfl, _⟩ := h
    rfl
  obtain ⟨a, c, ys, cs, ps, l, rfl, ⟨a1, a2, x1, x2, h1, h2, h3, h4, h5⟩, fc, fp, hy, cn, fl, k⟩ := h
  refine ⟨_, rfl, a, _, rfl, h1, rfl, _, _, rfl, _, _, rfl, rfl, ?_⟩
  refine ⟨_, rfl, _, rfl, a1, c, x1, ys, cs, l, false, rfl, h2, h3, fc, hy, cn, fl, fun H1 s1 => ⟨_, rfl, ite2 (fun hk => ?_) (fun hk => ?_)⟩⟩
  · refine ⟨_, rfl, _, rfl, a2, c, x2, ys, ps, l, true, rfl, h4.ext s1, h5.same s1, fp, hy.ext s1, cn.same s1, fl, fun H2 s2 => ?_⟩
    have := k H2 (s1.trans s2)
    unfold keepB at this
    rw [hk, Bool.true_and] at this
    exact this
  · have := k H1 s1
    unfold keepB at this
    rw [Bool.eq_false_iff.mpr hk, Bool.false_and] at this
    exact this
abbrev s_keeps : Stmt := top 26
theorem sc_keeps : FnScope ["one", "other", "alignment", "conditions"] ["one", "other", "alignment", "conditions"] (defScope s_keeps) := ⟨rfl, rfl, rfl, by decide +kernel, rfl, by decide +kernel, by decide +kernel⟩
theorem ok_keeps {f fA fC fK : Addr} {fd fdA fdC fdK : FuncData} (F : Fun K "keeps" "keeps" s_keeps f fd) (T : TxtA K mg)
    (c_check_alignment : ∀ base, Ca P w K mg base (L2.CX P w) "check_alignment" 7 ["one", "other", "value"] (spCheckAl K T.C T.EA) fA fdA) (c_check_conditions : ∀ base, Ca P w K mg base (L2.CX P w) "check_conditions" 6 ["one", "other", "value"] (spCheckC K T.C T.EB) fC fdC)
    (c_keeps_conditions : ∀ base, Ca P w K mg base CX0 "keeps_conditions" 3 ["alignment", "conditions"] (spKC K) fK fdK) : FnOk P w K mg base (L2.CX P w) 8 f fd ["one", "other", "alignment", "conditions"] (spKeeps K T.C T.EA T.EB) := by
  have c_check_alignment := c_check_alignment base
  have c_check_conditions := c_check_conditions base
  have c_keeps_conditions := c_keeps_conditions base
  refine F.okX sc_keeps (fun vs H Q E h => ?_) (fun cdv A outer s H vs Q E hr h => ⟨_, (pss_cons (ps_expr (pe_call c_check_alignment.G (hr.mono (by first | decide | omega)) (by rfl) c_check_alignment.g c_check_alignment.k c_check_alignment.B .nil (passes_call (takes_of rfl rfl rfl rfl) fun _ _ _ _ z => z) (pa_cons (pv 0) (pa_cons (pv 1) (pa_cons (pv 2) pa_nil)))))
    (pss_cons (ps_expr (pe_call c_check_conditions.G (hr.mono (by first | decide | omega)) (by rfl) c_check_conditions.g c_check_conditions.k c_check_conditions.B .nil (passes_call (takes_of rfl rfl rfl rfl) fun _ _ _ _ z => z) (pa_cons (pv 0) (pa_cons (pv 1) (pa_cons (pv 3) pa_nil)))))
    (pss_one (ps_ret (pe_call c_keeps_conditions.G (hr.mono (by first | decide | omega)) (by rfl) c_keeps_conditions.g c_keeps_conditions.k c_keeps_conditions.B .nil pass0 (pa_cons (pv 2) (pa_cons (pv 3) pa_nil))))))), ?_⟩)
  · obtain ⟨_, _, _, _, _, _, _, _, _, _, _, rfl, _⟩ := h
    rfl
  obtain ⟨one, other, v, u, d, c, xs, hs, ks, rs, qs, rfl, t1, t2, hd, few, its, kA, kB, k⟩ := h
  refine ⟨_, rfl, _, rfl, _, rfl, one, other, v, d, hs, ks, rs, qs, rfl, t1, t2, hd, few, fun hl e H' s1 he => kA hl e H' s1 he, fun hl H1 s1 => ?_⟩
  refine ⟨_, rfl, _, rfl, _, rfl, one, other, u, c, xs, hs, ks, rs, qs, rfl, t1.same s1, t2.same s1, its.same s1, fun z hz e H' s2 he => kB hl z hz e H' (s1.trans s2) he, fun hb H2 s2 => ?_⟩
  have s2 := s1.trans s2
  obtain ⟨a, cs, ps, rfl, rfl, laid, okc, okp, inc, inp, _⟩ := laid_of hd hl
  have kH : ∀ H3, Same H2 H3 → Q (.bl (keepD _ c)) H3 := fun H3 s3 => k hl hb H3 (s2.trans s3)
  have lc := okPs_len okc inc
  have lp := okPs_len okp inp
  obtain ⟨l1, l2, l3⟩ := Tab.len t1
  cases c with
  | tuple ds =>
    obtain ⟨b, rfl, hx, ha⟩ := its.x ds rfl
    have nb : ¬ 40 < ds.length := fun z => by
      have : badConds hs.length ks.length rs.length qs.length (.ref b) (.tuple ds) xs = some (.ref b) := if_pos z
      rw [this] at hb
      cases hb
    have eb : badConds hs.length ks.length rs.length qs.length (.ref b) (.tuple ds) xs = badIn (condD hs.length ks.length rs.length qs.length) xs ds := if_neg nb
    rw [eb] at hb
    have all := badIn_all ha.len hb
    have cn := Cnds.of ha all
    refine ⟨_, rfl, _, rfl, a, b, xs, cs, ps, ds.map cndD, rfl, laid.same s2, by omega, by omega, hx.ext s2, cn.same s2, by rw [List.length_map]; omega, fun H3 s3 => ?_⟩
    have e1 : ∀ l : List (Int × Int), (l.map datP).map Xby.prD = l := fun l => by
      rw [List.map_map]
      exact List.map_id'' (fun q => rfl) l
    have e2 : keepD (.tuple [.tuple (cs.map datP), .tuple (ps.map datP)]) (.tuple ds) = keepB cs ps (ds.map cndD) := by
      show keepB ((cs.map datP).map Xby.prD) ((ps.map datP).map Xby.prD) _ = _
      rw [e1, e1]
    rw [← e2]
    exact kH H3 s3
  | _ => cases hb
end
end K09

set_option Elab.async false
set_option linter.all false
set_option maxRecDepth 100000
set_option maxHeartbeats 8000000
namespace K09
open PySem L2 Xby
def spClaim (K : PySem.W.Frag) (C : Addr) : Sp := fun vs H Q _ => ∃ (p one other : Addr) (hs ks : List Str) (rs qs : List (List V)) (n : Nat), vs = [.ref p, .ref one, .ref other] ∧ IsTab K C H one hs rs ∧ IsTab K C H other ks qs ∧ n + 10 ≤ 1000000 ∧ Pot H p n ∧
  ∀ a H' (c : Cnd), H' a = some (.tup [.str (kn c.row), vO c.i, vO c.j, .bl c.t]) → CndOk hs.length ks.length rs.length qs.length c → Pot H' p (n + 10) → But p H H' → Q (.ref a) H'
def MidC (p one other : Addr) (hs ks : List Str) (rs qs : List (List V)) (n : Nat) (H : Hp) (σ : St) (H' : Hp) : Prop := ∃ (L : Addr) (row : Bool), σ = [some (.ref p), some (.ref one), some (.ref other), some (.ref L), some (.str (kn row)), none, none, none] ∧
    H' L = some (.lst [.int ((if row then rs.length else hs.length : Nat) : Int), .int ((if row then qs.length else ks.length : Nat) : Int)]) ∧ L ≠ p ∧ (0 < (if row then rs.length else hs.length) ∨ 0 < (if row then qs.length else ks.length)) ∧ Pot H' p (n + 1) ∧ But p H H'
def MidP (p one other L : Addr) (a b : Nat) (row : Bool) (n : Nat) (H : Hp) (σ : St) (H' : Hp) : Prop := ∃ (D : Addr) (i j : Option Int) (o7 : Option V), σ = [some (.ref p), some (.ref one), some (.ref other), some (.ref L), some (.str (kn row)), some (.ref D), none, o7] ∧
    H' D = some (.lst [vO i, vO j]) ∧ (∀ x, i = some x → 0 ≤ x ∧ x < (a : Int)) ∧ (∀ x, j = some x → 0 ≤ x ∧ x < (b : Int)) ∧ (i ≠ none ∨ j ≠ none) ∧ Pot H' p (n + 4) ∧ But p H H'
section
variable {P : Program} {w : World} {K : PySem.W.Frag} {mg : Str → Option Value} {base : Heap}
abbrev s_law_claim : Stmt := top 53
theorem sc_law_claim : FnScope ["_law_pot_here", "_law_first", "_law_second", "_law_sizes", "_law_kind", "_law_places", "_law_many", "_law_gone"] ["_law_pot_here", "_law_first", "_law_second"] (defScope s_law_claim) := ⟨rfl, rfl, rfl, by decide +kernel, rfl, by decide +kernel, by decide +kernel⟩
theorem ok_claim {f fD fA : Addr} {fd fdD fdA : FuncData} (F : Fun K "_law_claim" "_law_claim" s_law_claim f fd) (T : TxtA K mg)
    (c_law_draw : ∀ base, Ca P w K mg base CX0 "_law_draw" 1 ["_law_pot_here", "_law_many"] spDraw fD fdD) (c_law_any : ∀ base, Ca P w K mg base CX0 "_law_any" 2 ["_law_pot_here", "_law_items"] spAny fA fdA) : FnOk P w K mg base CX0 3 f fd ["_law_pot_here", "_law_first", "_law_second"] (spClaim K T.C) := by
  have c_law_draw := c_law_draw base
  have c_law_any := c_law_any base
  refine F.ok sc_law_claim (fun vs H Q E h => ?_) (fun cdv A outer s H vs Q E hr h => ⟨_, (pss_cons (ps_par (i := 3) (j := 4) (by rfl) sc_law_claim.nd rfl rfl (by decide) rfl rfl (pa_cons (pe_lst (pa_cons (pe_callB (call_lenK K rfl) (by rfl) T.b_len (by decide +kernel) (pa_cons (pe_fldK K rfl (pv 1) rfl) pa_nil)) (pa_cons (pe_callB (call_lenK K rfl) (by rfl) T.b_len (by decide +kernel) (pa_cons (pe_fldK K rfl (pv 2) rfl) pa_nil)) pa_nil))) (pa_cons pe_str pa_nil)) (by rfl))
    (Evl.pss_cut (ps_if (PW.pt (pw_or (pt_cmpR op_eq (pe_callB (cr_maxK K rfl rfl) (by rfl) T.b_max (by decide +kernel) (pa_cons (pv 3) pa_nil)) pe_int (nomark _)) (pw_or1 (pt_cmpR op_eq (pe_call c_law_draw.G (hr.mono (by first | decide | omega)) (by rfl) c_law_draw.g c_law_draw.k c_law_draw.B .nil pass0 (pa_cons (pv 0) (pa_cons pe_int pa_nil))) pe_int (nomark _))))) (pss_one (ps_par (i := 3) (j := 4) (by rfl) sc_law_claim.nd rfl rfl (by decide) rfl rfl (pa_cons (pe_lst (pa_cons (pe_callB (call_lenK K rfl) (by rfl) T.b_len (by decide +kernel) (pa_cons (pe_fldK K rfl (pv 1) rfl) pa_nil)) (pa_cons (pe_callB (call_lenK K rfl) (by rfl) T.b_len (by decide +kernel) (pa_cons (pe_fldK K rfl (pv 2) rfl) pa_nil)) pa_nil))) (pa_cons pe_str pa_nil)) (by rfl))) pss_nil)
    (pss_cons (ps_setLc (i := 5) (own := [("_law_many", 6)]) (g := gName 6) (tt := tYes) rfl sc_law_claim.nd rfl rfl (sw_true rfl rfl rfl (by decide +kernel)) (pi_listK K rfl (pv 3)) (blkOk_by (N := ["_law_pot_here", "_law_first", "_law_second", "_law_sizes", "_law_kind", "_law_places", "_law_many", "_law_gone"]) (sc := defScope s_law_claim) (by decide +kernel)) (fun _ _ _ _ _ => (pg_name (i := 6) sc_law_claim.nd rfl (Or.inl rfl))) (fun _ _ _ _ _ => pts_nil) (fun _ _ _ _ _ => (pe_ifExp (pt_cmpR op_gt (pv 6) pe_int (nomark _)) (pe_call c_law_draw.G (hr.mono (by first | decide | omega)) (by rfl) c_law_draw.g c_law_draw.k c_law_draw.B .nil pass0 (pa_cons (pv 0) (pa_cons (pv 6) pa_nil))) pe_non)))
    (pss_cons (ps_set (i := 7) sc_law_claim.nd rfl (Or.inl rfl) (pe_call c_law_any.G (hr.mono (by first | decide | omega)) (by rfl) c_law_any.g c_law_any.k c_law_any.B .nil pass0 (pa_cons (pv 0) (pa_cons (pe_lst (pa_cons pe_int (pa_cons pe_int (pa_cons pe_int (pa_cons pe_int pa_nil))))) pa_nil))))
    (Evl.pss_cut (ps_if (PW.pt (pw_and (pt_cmpR op_lt (pv 7) pe_int (nomark _)) (pw_and1 (pt_cmpR op_notN (pe_ix (ix_listK K rfl) (pv 5) (pe_op op_sub pe_int (pv 7)) (fun _ _ => rfl)) pe_non (nomark _))))) (pss_one (ps_asg pe_non (pg_sub (pv 5) (pv 7) set_list))) pss_nil)
    (pss_one (ps_ret (pe_tup (pa_cons (pv 4) (pa_cons (pe_ix (ix_listK K rfl) (pv 5) pe_int (fun _ _ => rfl)) (pa_cons (pe_ix (ix_listK K rfl) (pv 5) pe_int (fun _ _ => rfl)) (pa_cons (pe_cmpR op_eq (pe_call c_law_draw.G (hr.mono (by first | decide | omega)) (by rfl) c_law_draw.g c_law_draw.k c_law_draw.B .nil pass0 (pa_cons (pv 0) (pa_cons pe_int pa_nil))) pe_int (nomark _)) pa_nil)))))))))))), ?_⟩)
  · obtain ⟨_, _, _, _, _, _, _, _, rfl, _⟩ := h
    rfl
  obtain ⟨p, one, other, hs, ks, rs, qs, n, rfl, t1, t2, hn, pot, k⟩ := h
  obtain ⟨l1, l2, l3⟩ := Tab.len t1
  obtain ⟨l4, l5, l6⟩ := Tab.len t2
  obtain ⟨dx, ac, ar, xr, u1⟩ := id t1
  obtain ⟨dx', ac', ar', xr', u2⟩ := id t2
  refine ⟨_, rfl, one, T.C, dx, _, _, rfl, u1.at_, T.cl, T.n_rows, l_rows .., _, _, rfl, .inr ⟨_, u1.r, rfl⟩, _, rfl, other, T.C, dx', _, _, rfl, u2.at_, T.cl, T.n_rows, l_rows .., _, _, rfl, .inr ⟨_, u2.r, rfl⟩, by show 2 ≤ sizeLine; decide, fun L nL => ⟨_, _, rfl, ?_⟩⟩
  rw [u1.rows.len, u2.rows.len]
  have s1 := Same.one (o := .lst [.int (rs.length : Int), .int (qs.length : Int)]) nL
  have hL : (upd H L (.lst [.int (rs.length : Int), .int (qs.length : Int)])) L = some (.lst [.int (rs.length : Int), .int (qs.length : Int)]) := upd_same
  have Lp : L ≠ p := (pot.ne nL).symm
  have pot1 := pot.same s1
  have t1 := t1.same s1
  have t2 := t2.same s1
  have but1 : But p H _ := But.of s1
  clear s1 u1 u2
  generalize upd H L (.lst [.int (rs.length : Int), .int (qs.length : Int)]) = H1 at hL pot1 t1 t2 but1 ⊢
  have cols : ∀ {H2 : Hp} {L2 : Addr}, Pot H2 p (n + 1) → But p H H2 → H2 L2 = none → MidC p one other hs ks rs qs n H [some (.ref p), some (.ref one), some (.ref other), some (.ref L2), some (.str (kn false)), none, none, none] (upd H2 L2 (.lst [.int (((hs.map V.str).length : Nat) : Int), .int (((ks.map V.str).length : Nat) : Int)])) := fun {H2 L2} pot2 but2 nL2 =>
    ⟨L2, false, rfl, by rw [upd_same, List.length_map, List.length_map]; rfl, (pot2.ne nL2).symm, .inl (by show 0 < hs.length; omega), pot2.new nL2, but2.new nL2⟩
  -- which sort
  refine ⟨MidC p one other hs ks rs qs n H, ?_, ?_⟩
  · refine ⟨_, rfl, L, [(rs.length : Int), (qs.length : Int)], rfl, SqL.of hL, by show 0 < 2; decide, fun m hm hmx => ⟨rfl, _, rfl, ite2 (fun hz => ?_) (fun hz => ?_)⟩⟩
    · obtain ⟨dx, ac, ar, xr, u1⟩ := t1
      obtain ⟨dx', ac', ar', xr', u2⟩ := t2
      exact ⟨_, rfl, one, T.C, dx, _, _, rfl, u1.at_, T.cl, T.n_columns, l_columns .., _, _, rfl, .inr ⟨_, u1.c, rfl⟩, _, rfl, other, T.C, dx', _, _, rfl, u2.at_, T.cl, T.n_columns, l_columns .., _, _, rfl, .inr ⟨_, u2.c, rfl⟩, by show 2 ≤ sizeLine; decide, fun L2 nL2 => ⟨_, _, rfl, cols (pot1.more (by omega)) but1 nL2⟩⟩
    · refine ⟨_, rfl, p, 3, n, rfl, ⟨by decide, by decide⟩, by omega, pot1, fun r H2 r0 r3 pot2 but2 => ⟨rfl, _, rfl, ite2 (fun _ => ?_) (fun _ => ?_)⟩⟩
      · obtain ⟨dx, ac, ar, xr, u1⟩ := t1.but pot1 but2
        obtain ⟨dx', ac', ar', xr', u2⟩ := t2.but pot1 but2
        exact ⟨_, rfl, one, T.C, dx, _, _, rfl, u1.at_, T.cl, T.n_columns, l_columns .., _, _, rfl, .inr ⟨_, u1.c, rfl⟩, _, rfl, other, T.C, dx', _, _, rfl, u2.at_, T.cl, T.n_columns, l_columns .., _, _, rfl, .inr ⟨_, u2.c, rfl⟩, by show 2 ≤ sizeLine; decide, fun L2 nL2 => ⟨_, _, rfl, cols pot2 (but1.trans but2) nL2⟩⟩
      · refine ⟨L, true, rfl, but2 _ _ Lp hL, Lp, ?_, pot2, but1.trans but2⟩
        have nz : m ≠ 0 := fun z => hz (decide_eq_true (by rw [z]))
        have hm : m = (rs.length : Int) ∨ m = (qs.length : Int) := by simpa using hm
        rcases hm with rfl | rfl
        · exact .inl (by show 0 < rs.length; omega)
        · exact .inr (by show 0 < qs.length; omega)
  clear cols hL pot1 t1 t2 but1 Lp nL
  rintro σ H2 ⟨L, row, rfl, hL, Lp, pos, pot2, but2⟩
  have k : ∀ a H' (c : Cnd), c.row = row → H' a = some (.tup [.str (kn c.row), vO c.i, vO c.j, .bl c.t]) → (∀ x, c.i = some x → 0 ≤ x ∧ x < ((if row then rs.length else hs.length : Nat) : Int)) → (∀ x, c.j = some x → 0 ≤ x ∧ x < ((if row then qs.length else ks.length : Nat) : Int)) → (c.i ≠ none ∨ c.j ≠ none) → Pot H' p (n + 10) → But p H H' → Q (.ref a) H' := fun a H' c e h1 h2 h3 h4 h5 h6 => k a H' c h1 ⟨by rw [e]; exact h2, by rw [e]; exact h3, h4⟩ h5 h6
  have a6 : (if row then rs.length else hs.length) ≤ 6 := by cases row <;> simp <;> omega
  have b6 : (if row then qs.length else ks.length) ≤ 6 := by cases row <;> simp <;> omega
  generalize (if row then rs.length else hs.length) = a at hL pos k a6
  generalize (if row then qs.length else ks.length) = b at hL pos k b6
  -- the places
  refine ⟨_, rfl, L, rfl, ⟨_, SqL.of hL⟩, fun D nD => lc_list (K := K) (a := L) (xs := [.int (a : Int), .int (b : Int)]) (fun i H' => ∃ acc : List (Option Int), H' D = some (.lst (acc.map vO)) ∧ acc.length = i ∧ (∀ x, acc[0]? = some (some x) → 0 ≤ x ∧ x < (a : Int)) ∧ (∀ x, acc[1]? = some (some x) → 0 ≤ x ∧ x < (b : Int)) ∧ (0 < a → 0 < i → acc[0]? ≠ some none) ∧ (0 < b → 1 < i → acc[1]? ≠ some none) ∧
    Pot H' p (n + 1 + i) ∧ But p H2 H') ?_ (fun i H' _ ⟨_, _, _, _, _, _, _, _, z⟩ => SqL.of (z _ _ Lp hL)) ?_ ?_⟩
  · exact ⟨[], upd_same, rfl, by simp, by simp, by simp, by simp, pot2.new nD, But.of (Same.one nD)⟩
  · rintro i x H3 hi ⟨acc, hD, la, c0, c1, e0, e1, pot3, but3⟩
    have Dp : D ≠ p := (pot2.ne nD).symm
    have size : ∃ z : Nat, x = .int (z : Int) ∧ z ≤ 6 ∧ (i = 0 ∧ z = a ∨ i = 1 ∧ z = b) := by
      match i, hi with
      | 0, hi => exact ⟨a, by simpa using hi.symm, a6, .inl ⟨rfl, rfl⟩⟩
      | 1, hi => exact ⟨b, by simpa using hi.symm, b6, .inr ⟨rfl, rfl⟩⟩
    obtain ⟨z, rfl, z6, zi⟩ := size
    have next : ∀ {H4 : Hp} {o : Option Int}, H4 D = some (.lst (acc.map vO)) → (∀ x, o = some x → 0 ≤ x ∧ x < (z : Int)) → (0 < z → o ≠ none) → Pot H4 p (n + 1 + (i + 1)) → But p H2 H4 →
        ∃ l, H4 D = some (.lst l) ∧ l.length < sizeLine ∧ ∃ acc : List (Option Int), (upd H4 D (.lst (l ++ [vO o]))) D = some (.lst (acc.map vO)) ∧ acc.length = i + 1 ∧ (∀ x, acc[0]? = some (some x) → 0 ≤ x ∧ x < (a : Int)) ∧ (∀ x, acc[1]? = some (some x) → 0 ≤ x ∧ x < (b : Int)) ∧ (0 < a → 0 < i + 1 → acc[0]? ≠ some none) ∧ (0 < b → 1 < i + 1 → acc[1]? ≠ some none) ∧
          Pot (upd H4 D (.lst (l ++ [vO o]))) p (n + 1 + (i + 1)) ∧ But p H2 (upd H4 D (.lst (l ++ [vO o]))) := fun {H4 o} hD ho hn pot4 but4 => by
      refine ⟨_, hD, ?_, acc ++ [o], by rw [upd_same, List.map_append]; rfl, by simp [la], ?_, ?_, ?_, ?_, pot4.upd Dp.symm, but4.updN nD⟩
      · rw [List.length_map, la]
        have : sizeLine = 16777216 := sizeLine_eq
        omega
      all_goals
        rcases zi with ⟨rfl, rfl⟩ | ⟨rfl, rfl⟩
      · obtain rfl : acc = [] := List.eq_nil_of_length_eq_zero la
        intro x hx
        exact ho x (by simpa using hx)
      · intro x hx
        rw [List.getElem?_append_left (by omega)] at hx
        exact c0 x hx
      · obtain rfl : acc = [] := List.eq_nil_of_length_eq_zero la
        intro x hx
        simp at hx
      · intro x hx
        rw [List.getElem?_append_right (by omega), la] at hx
        exact ho x (by simpa using hx)
      · obtain rfl : acc = [] := List.eq_nil_of_length_eq_zero la
        intro h _ q
        exact hn h (by simpa using q)
      · intro h _ q
        rw [List.getElem?_append_left (by omega)] at q
        exact e0 h (by omega) q
      · intro _ h
        omega
      · intro h _ q
        rw [List.getElem?_append_right (by omega), la] at q
        exact hn h (by simpa using q)
    refine ⟨rfl, _, rfl, _, _, rfl, rfl, _, rfl, ite2 (fun hz => ?_) (fun hz => ?_)⟩
    · have hz := of_decide_eq_true hz
      refine ⟨_, rfl, _, rfl, p, (z : Int), n + 1 + i, rfl, ⟨by omega, by omega⟩, by omega, pot3, fun r H4 r0 r1 pot4 but4 => ?_⟩
      exact next (o := some r) (but4 _ _ Dp hD) (fun x hx => by injection hx with hx; subst hx; exact ⟨r0, r1⟩) (fun _ => by simp) (pot4.more (by omega)) (but3.trans but4)
    · have hz : ¬ (0 : Int) < (z : Int) := fun q => hz (decide_eq_true q)
      exact next (o := none) hD (fun x hx => by cases hx) (fun h => absurd (by omega) hz) (pot3.more (by omega)) but3
  rintro H3 ⟨acc, hD, la, c0, c1, e0, e1, pot3, but3⟩
  obtain ⟨i, j, rfl⟩ : ∃ i j, acc = [i, j] := by
    match acc, la with
    | [i, j], _ => exact ⟨i, j, rfl⟩
  have but3 := but2.trans but3
  have Dp : D ≠ p := (pot2.ne nD).symm
  have nn : i ≠ none ∨ j ≠ none := by
    rcases pos with h | h
    · exact .inl fun z => e0 h (by show 0 < 2; decide) (by rw [z]; rfl)
    · exact .inr fun z => e1 h (by show 1 < 2; decide) (by rw [z]; rfl)
  have c0 : ∀ x, i = some x → 0 ≤ x ∧ x < (a : Int) := fun x hx => c0 x (by rw [hx]; rfl)
  have c1 : ∀ x, j = some x → 0 ≤ x ∧ x < (b : Int) := fun x hx => c1 x (by rw [hx]; rfl)
  clear e0 e1 la pos
  refine ⟨_, rfl, by show 4 ≤ sizeLine; decide, fun l nl => ⟨p, l, _, n + 3, rfl, upd_same, (pot3.ne nl).symm, ⟨by show 0 < 4; decide, by show 4 < 1000; decide⟩, by omega, (pot3.new nl).more (by show n + 1 + 2 ≤ n + 3; omega), fun x H4 hx pot4 but4 => ?_⟩⟩
  have hD4 : H4 D = some (.lst [vO i, vO j]) := but4 _ _ Dp (Same.one nl _ _ hD)
  have but4 := (but3.same (Same.one nl)).trans but4
  have gone : x = .int 2 ∨ x = .int 0 ∨ x = .int 1 := by
    simp only [List.mem_cons, List.not_mem_nil, or_false] at hx
    rcases hx with rfl | rfl | rfl | rfl <;> simp
  have Dn : H D = none := by
    cases e : H D with
    | none => rfl
    | some o =>
      have := but2 D o Dp e
      rw [nD] at this
      cases this
  refine ⟨MidP p one other L a b row n H, ?_, ?_⟩
  · have stay : MidP p one other L a b row n H [some (.ref p), some (.ref one), some (.ref other), some (.ref L), some (.str (kn row)), some (.ref D), none, some x] H4 := ⟨D, i, j, some x, rfl, hD4, c0, c1, nn, pot4.more (by omega), but4⟩
    have nonO : ∀ o : Option Int, decide (vO o = V.non) = o.isNone := fun o => by cases o <;> rfl
    rcases gone with rfl | rfl | rfl
    · exact ⟨_, rfl, _, _, rfl, rfl, _, rfl, iteF stay⟩
    · refine ⟨_, rfl, _, _, rfl, rfl, _, rfl, iteT ⟨_, rfl, _, rfl, _, _, rfl, rfl, D, _, 1, vO j, rfl, rfl, SqL.of hD4, rfl, rfl, _, rfl, ?_⟩⟩
      rw [nonO]
      cases j with
      | none => exact stay
      | some y => exact ⟨_, rfl, _, rfl, D, _, 0, _, rfl, rfl, hD4, rfl, D, none, some y, _, rfl, upd_same, by simp, c1, .inr (by simp), (pot4.upd Dp.symm).more (by omega), but4.updN Dn⟩
    · refine ⟨_, rfl, _, _, rfl, rfl, _, rfl, iteT ⟨_, rfl, _, rfl, _, _, rfl, rfl, D, _, 0, vO i, rfl, rfl, SqL.of hD4, rfl, rfl, _, rfl, ?_⟩⟩
      rw [nonO]
      cases i with
      | none => exact stay
      | some y => exact ⟨_, rfl, _, rfl, D, _, 1, _, rfl, rfl, hD4, rfl, D, some y, none, _, rfl, upd_same, c0, by simp, .inl (by simp), (pot4.upd Dp.symm).more (by omega), but4.updN Dn⟩
  clear hD hD4 c0 c1 nn pot3 pot4 but3 but4 gone hx nl Dp Dn nD
  rintro σ H5 ⟨D, i, j, o7, rfl, hD, c0, c1, nn, pot5, but5⟩
  refine ⟨_, rfl, _, rfl, D, _, 0, _, rfl, rfl, SqL.of hD, rfl, _, rfl, D, _, 1, _, rfl, rfl, SqL.of hD, rfl, _, rfl, p, 2, n + 4, rfl, ⟨by decide, by decide⟩, by omega, pot5, fun r H6 r0 r1 pot6 but6 => ⟨rfl, by show 4 ≤ sizeLine; decide, fun t nt => ?_⟩⟩
  exact k t _ ⟨row, i, j, decide (V.int r = V.int 0)⟩ rfl upd_same c0 c1 nn ((pot6.new nt).more (by omega)) ((but5.trans but6).new nt)
end
end K09

set_option Elab.async false
set_option linter.all false
set_option maxRecDepth 100000
set_option maxHeartbeats 8000000
namespace K09
open PySem L2 Xby
def spIsClaim (K : PySem.W.Frag) (C : Addr) : Sp := fun vs H Q _ => ∃ (one other : Addr) (v : V) (d : PyData) (hs ks : List Str) (rs qs : List (List V)), vs = [.ref one, .ref other, v] ∧ IsTab K C H one hs rs ∧ IsTab K C H other ks qs ∧ Dq K H v d ∧
  ∀ H', Same H H' → Q (.bl (condD hs.length ks.length rs.length qs.length d)) H'
theorem any2 (d : PyData) : (["row", "column"] : List Str).any (isTxt d) = (["column", "row"] : List Str).any (isTxt d) := by
  simp only [List.any_cons, List.any_nil, Bool.or_false]
  exact Bool.or_comm _ _
theorem non_is {K : PySem.W.Frag} {H : Hp} {v : V} {d : PyData} (h : Dq K H v d) : decide (v = .non) = nonD d := by
  cases h with
  | non => rfl
  | _ => exact decide_eq_false (fun z => by cases z)
def MidK (one other a : Addr) (m o : Nat) (H : Hp) (σ : St) (H' : Hp) : Prop := ∃ L, σ = [some (.ref one), some (.ref other), some (.ref a), some (.ref L), none, none] ∧ H' L = some (.lst [.int (m : Int), .int (o : Int)]) ∧ Same H H'
section
variable {P : Program} {w : World} {K : PySem.W.Frag} {mg : Str → Option Value} {base : Heap}
abbrev s_law_is_claim : Stmt := top 52
theorem sc_law_is_claim : FnScope ["_law_first", "_law_second", "_law_value", "_law_sizes", "_law_place", "_law_many"] ["_law_first", "_law_second", "_law_value"] (defScope s_law_is_claim) := ⟨rfl, rfl, rfl, by decide +kernel, rfl, by decide +kernel, by decide +kernel⟩
theorem ok_isclaim {f fI : Addr} {fd fdI : FuncData} (F : Fun K "_law_is_claim" "_law_is_claim" s_law_is_claim f fd) (T : TxtA K mg)
    (c_law_is_int : ∀ base, Ca P w K mg base CX0 "_law_is_int" 1 ["_law_value", "_law_low", "_law_high"] (spWithin K) fI fdI) : FnOk P w K mg base CX0 2 f fd ["_law_first", "_law_second", "_law_value"] (spIsClaim K T.C) := by
  have c_law_is_int := c_law_is_int base
  refine F.ok sc_law_is_claim (fun vs H Q E h => ?_) (fun cdv A outer s H vs Q E hr h => ⟨_, (pss_cons (ps_if (PW.pt (pw_or (pt_not (pt_val (pe_callB (call_isiK K rfl) (by rfl) T.b_isinstance (by decide +kernel) (pa_cons (pv 2) (pa_cons (pe_bltn (v := .ty "tuple") (by rfl) T.b_tuple (by decide +kernel) rfl) pa_nil))))) (pw_or (pt_cmpR op_ne (pe_callB (call_lenK K rfl) (by rfl) T.b_len (by decide +kernel) (pa_cons (pv 2) pa_nil)) pe_int (nomark _)) (pw_or1 (pt_not (pt_val (pe_callB (call_isiK K rfl) (by rfl) T.b_isinstance (by decide +kernel) (pa_cons (pe_ix (ix_tupK K rfl) (pv 2) pe_int (fun _ _ => rfl)) (pa_cons (pe_bltn (v := .ty "bool") (by rfl) T.b_bool (by decide +kernel) rfl) pa_nil))))))))) (pss_one (ps_ret pe_bl)) pss_nil)
    (pss_cons (ps_if (PW.pt (pw_or (pt_not (pt_val (pe_callB (call_isiK K rfl) (by rfl) T.b_isinstance (by decide +kernel) (pa_cons (pe_ix (ix_tupK K rfl) (pv 2) pe_int (fun _ _ => rfl)) (pa_cons (pe_bltn (v := .ty "str") (by rfl) T.b_str (by decide +kernel) rfl) pa_nil))))) (pw_or1 (pt_cmpR (op_notInTx K rfl hr.units) (pe_ix (ix_tupK K rfl) (pv 2) pe_int (fun _ _ => rfl)) (pe_tup (pa_cons pe_str (pa_cons pe_str pa_nil))) (by rfl))))) (pss_one (ps_ret pe_bl)) pss_nil)
    (pss_cons (ps_set (i := 3) sc_law_is_claim.nd rfl (Or.inl rfl) (pe_lst (pa_cons (pe_callB (call_lenK K rfl) (by rfl) T.b_len (by decide +kernel) (pa_cons (pe_fldK K rfl (pv 0) rfl) pa_nil)) (pa_cons (pe_callB (call_lenK K rfl) (by rfl) T.b_len (by decide +kernel) (pa_cons (pe_fldK K rfl (pv 1) rfl) pa_nil)) pa_nil))))
    (Evl.pss_cut (ps_if (pt_cmpR op_eq (pe_ix (ix_tupK K rfl) (pv 2) pe_int (fun _ _ => rfl)) pe_str (nomark _)) (pss_one (ps_set (i := 3) sc_law_is_claim.nd rfl (Or.inl rfl) (pe_lst (pa_cons (pe_callB (call_lenK K rfl) (by rfl) T.b_len (by decide +kernel) (pa_cons (pe_fldK K rfl (pv 0) rfl) pa_nil)) (pa_cons (pe_callB (call_lenK K rfl) (by rfl) T.b_len (by decide +kernel) (pa_cons (pe_fldK K rfl (pv 1) rfl) pa_nil)) pa_nil))))) pss_nil)
    (pss_cons (ps_if (pt_not (pt_val (pe_callB (cr_allK K rfl rfl) (by rfl) T.b_all (by decide +kernel) (pa_cons (pe_lc (own := [("_law_place", 4), ("_law_many", 5)]) (g := gTup K 2 (gCons (gName 4) (gCons (gName 5) gNil))) (tt := tYes) rfl sc_law_is_claim.nd (pi_zipB K rfl true false meets_TL (by rfl) T.b_zip (pa_cons (pe_slice (sl_tupAK K rfl) (pv 2) (po_some pe_int) (po_some pe_int)) (pa_cons (pv 3) pa_nil))) (blkOk_by (N := ["_law_first", "_law_second", "_law_value", "_law_sizes", "_law_place", "_law_many"]) (sc := defScope s_law_is_claim) (by decide +kernel)) (fun _ _ _ _ _ => (pg_tupK K rfl rfl (pgs_cons (pg_name (i := 4) sc_law_is_claim.nd rfl (Or.inl rfl)) (pgs_cons (pg_name (i := 5) sc_law_is_claim.nd rfl (Or.inl rfl)) pgs_nil)))) (fun _ _ _ _ _ => pts_nil) (fun _ _ _ _ _ => (pe_or (pe_cmpR op_isN (pv 4) pe_non (nomark _)) (pe_one (pe_call c_law_is_int.G (hr.mono (by first | decide | omega)) (by rfl) c_law_is_int.g c_law_is_int.k c_law_is_int.B .nil pass0 (pa_cons (pv 4) (pa_cons pe_int (pa_cons (pe_op op_sub (pv 5) pe_int) pa_nil)))))))) pa_nil)))) (pss_one (ps_ret pe_bl)) pss_nil)
    (pss_one (ps_ret (pe_or (pe_cmpR op_notN (pe_ix (ix_tupK K rfl) (pv 2) pe_int (fun _ _ => rfl)) pe_non (nomark _)) (pe_one (pe_cmpR op_notN (pe_ix (ix_tupK K rfl) (pv 2) pe_int (fun _ _ => rfl)) pe_non (nomark _))))))))))), ?_⟩)
  · obtain ⟨_, _, _, _, _, _, _, _, rfl, _⟩ := h
    rfl
  obtain ⟨one, other, v, d, hs, ks, rs, qs, rfl, t1, t2, hd, k⟩ := h
  rcases hd.isTup with ⟨a, xs, ds, rfl, rfl, hx, ha⟩ | ⟨T', ty, kt, no⟩
  · have len := ha.len
    refine ⟨_, rfl, _, _, _, _, _, rfl, .ty _, tyTup hx, kit_ty kit_tt, _, rfl, ?_⟩
    refine ⟨_, rfl, _, _, rfl, .inr ⟨xs, hx, rfl⟩, rfl, _, rfl, ite2 (fun h2 => ?_) (fun h2 => ?_)⟩
    · have ne : ds.length ≠ 4 := fun z => by
        rw [len, z] at h2
        simp at h2
      rw [cond_len ne] at k
      exact k H (Same.refl H)
    have two : xs.length = 4 := by
      have : V.int ((xs.length : Nat) : Int) = V.int 4 := by simpa using h2
      have := V.int.inj this
      omega
    obtain ⟨x0, x1, x2, x3, rfl⟩ : ∃ x0 x1 x2 x3, xs = [x0, x1, x2, x3] := by
      match xs, two with
      | [x0, x1, x2, x3], _ => exact ⟨x0, x1, x2, x3, rfl⟩
    cases ha with
    | @cons _ _ d0 _ q0 r0 =>
      cases r0 with
      | @cons _ _ d1 _ q1 r1 =>
        cases r1 with
        | @cons _ _ d2 _ q2 r2 =>
          cases r2 with
          | @cons _ _ d3 _ q3 r3 =>
            cases r3
            have ek : condD hs.length ks.length rs.length qs.length (.tuple [d0, d1, d2, d3]) = ((["column", "row"] : List Str).any (isTxt d0) && boolD d3 && !(nonD d1 && nonD d2) && (okO (if isTxt d0 "column" then hs.length else rs.length) d1 && okO (if isTxt d0 "column" then ks.length else qs.length) d2)) := rfl
            rw [ek] at k
            have isb : ∀ {Z : Bool → Hp → Prop}, Z (boolD d3) H → rIsi K [x3, .ty "bool"] H (fun v H' => ∃ b, v = .bl b ∧ Z b H') := fun {Z} z => by
              rcases q3.kind with ⟨b, rfl⟩ | ⟨i, rfl⟩ | ⟨T', ty, ⟨kb, _⟩, _⟩
              · cases q3
                exact ⟨_, _, _, _, _, rfl, .ty _, .base (.bl b), kit_ty kit_bb, _, rfl, z⟩
              · cases q3
                exact ⟨_, _, _, _, _, rfl, .ty _, .base (.int i), kit_ty kit_ib, _, rfl, z⟩
              · have nb : boolD d3 = false := by
                  cases q3 with
                  | bl b => cases ty with | base t => cases t; exact absurd kb (by decide +kernel)
                  | _ => rfl
                rw [nb] at z
                exact ⟨_, _, _, _, _, rfl, .ty _, ty, kit_ty kb, _, rfl, z⟩
            refine ⟨_, rfl, a, _, 3, _, rfl, rfl, hx, rfl, isb ?_⟩
            cases hb : boolD d3 with
            | false =>
              rw [hb, Bool.and_false, Bool.false_and, Bool.false_and] at k
              exact k H (Same.refl H)
            | true =>
              rw [hb, Bool.and_true] at k
              refine ⟨_, rfl, a, _, 0, _, rfl, rfl, hx, rfl, ?_⟩
              rcases q0.isStr with ⟨x, rfl, rfl⟩ | ⟨T', ty, kt, _⟩
              rotate_left
              · have nk : (["column", "row"] : List Str).any (isTxt d0) = false := by
                  cases q0 with
                  | str x => cases ty with | base t => cases t; exact absurd kt (by decide +kernel)
                  | _ => rfl
                rw [nk, Bool.false_and, Bool.false_and] at k
                refine ⟨_, _, _, _, _, rfl, .ty _, ty, kit_ty kt, _, rfl, ?_⟩
                exact k H (Same.refl H)
              refine ⟨_, _, _, _, _, rfl, .ty _, .base (.str x), kit_ty kit_ss, _, rfl, ?_⟩
              refine ⟨_, rfl, a, _, 0, _, rfl, rfl, hx, rfl, by show 2 ≤ sizeLine; decide, fun kt nkt => ⟨kt, ["row", "column"], .str x, rfl, SqT.of upd_same, .str x, _, rfl, ?_⟩⟩
              have s1 := Same.one (o := .tup [.str "row", .str "column"]) nkt
              rw [if_pos rfl, any2]
              cases hkd : (["column", "row"] : List Str).any (isTxt (.str x)) with
              | false =>
                rw [hkd, Bool.false_and, Bool.false_and] at k
                exact k _ s1
              | true =>
                obtain ⟨ex, _, ec⟩ := txt_is q0 hkd
                generalize isTxt (.str x) "row" = row at ex ec
                cases ex
                rw [hkd, Bool.true_and, ec] at k
                have t1 := t1.same s1
                have t2 := t2.same s1
                have hx := hx.ext s1
                have q1 := q1.same s1
                have q2 := q2.same s1
                generalize upd H kt (.tup [.str "row", .str "column"]) = H1 at s1 t1 t2 hx q1 q2 ⊢
                refine iteF ?_
                obtain ⟨dx, ac, ar, xr, u1⟩ := id t1
                obtain ⟨dx', ac', ar', xr', u2⟩ := id t2
                refine ⟨_, rfl, one, T.C, dx, _, _, rfl, u1.at_, T.cl, T.n_rows, l_rows .., _, _, rfl, .inr ⟨_, u1.r, rfl⟩, _, rfl, other, T.C, dx', _, _, rfl, u2.at_, T.cl, T.n_rows, l_rows .., _, _, rfl, .inr ⟨_, u2.r, rfl⟩, by show 2 ≤ sizeLine; decide, fun L nL => ?_⟩
                have s2 := Same.one (o := .lst [.int (xr.length : Int), .int (xr'.length : Int)]) nL
                have e1 := u1.rows.len
                have e2 := u2.rows.len
                refine ⟨MidK one other a (if row then rs.length else hs.length) (if row then qs.length else ks.length) H1, ?_, ?_⟩
                · have hx := hx.ext s2
                  refine ⟨_, rfl, a, _, 0, _, rfl, rfl, hx, rfl, rfl, _, rfl, ?_⟩
                  have ed : decide (V.str (kn row) = V.str "column") = !row := by cases row <;> decide +kernel
                  rw [ed]
                  cases row with
                  | true =>
                    refine iteF ⟨L, rfl, ?_, s2⟩
                    rw [upd_same, e1, e2]
                    rfl
                  | false =>
                    refine iteT ?_
                    obtain ⟨dx, ac, ar, xr, u1⟩ := t1.same s2
                    obtain ⟨dx', ac', ar', xr', u2⟩ := t2.same s2
                    refine ⟨_, rfl, one, T.C, dx, _, _, rfl, u1.at_, T.cl, T.n_columns, l_columns .., _, _, rfl, .inr ⟨_, u1.c, rfl⟩, _, rfl, other, T.C, dx', _, _, rfl, u2.at_, T.cl, T.n_columns, l_columns .., _, _, rfl, .inr ⟨_, u2.c, rfl⟩, by show 2 ≤ sizeLine; decide, fun L2 nL2 => ⟨L2, rfl, ?_, Same.upd s2 nL2⟩⟩
                    rw [upd_same, List.length_map, List.length_map]
                    rfl
                clear s2 e1 e2 u1 u2 nL L
                rintro σ H3 ⟨L, rfl, hL, s3⟩
                have e1 : (if (!row) = true then hs.length else rs.length) = (if row then rs.length else hs.length) := by cases row <;> rfl
                have e2 : (if (!row) = true then ks.length else qs.length) = (if row then qs.length else ks.length) := by cases row <;> rfl
                rw [e1, e2] at k
                generalize (if row then rs.length else hs.length) = m at hL k
                generalize (if row then qs.length else ks.length) = o at hL k
                have hx := hx.ext s3
                have q1 := q1.same s3
                have q2 := q2.same s3
                have s1 := s1.trans s3
                clear s3
                refine ⟨_, rfl, 1, rfl, 3, rfl, a, _, rfl, hx, fun q => absurd q (by show ¬ (1 = 0 ∧ 3 = 4); decide), fun _ p np => ?_⟩
                have s4 := Same.one (o := .tup (cutV [V.str (kn row), x1, x2, x3] (some 1) (some 3))) np
                have hp : SqB K true (upd H3 p (.tup (cutV [V.str (kn row), x1, x2, x3] (some 1) (some 3)))) p [x1, x2] := SqT.of upd_same
                have hx := hx.ext s4
                have hL := s4 _ _ hL
                have q1 := q1.same s4
                have q2 := q2.same s4
                have s1 := s1.trans s4
                generalize upd H3 p (.tup (cutV [V.str (kn row), x1, x2, x3] (some 1) (some 3))) = H4 at hp hx hL q1 q2 s1 ⊢
                clear s4 np
                refine ⟨_, rfl, p, L, [x1, x2], [.int (m : Int), .int (o : Int)], rfl, hp, SqL.of hL, fun D nD => lc_it (walk_zipB rfl) (fun i H' => H' D = some (.lst (([okO m d1, okO o d2].take i).map V.bl)) ∧ Same H4 H') ⟨upd_same, Same.one nD⟩ (fun i H' _ z => ⟨hp.ext z.2, SqL.of (z.2 _ _ hL)⟩) ?_ ?_⟩
                · rintro i v H5 H6 hi ⟨hD, s5⟩ ⟨t, y, z, rfl, nt, rfl, hy, hz⟩
                  obtain ⟨d, zn, hq, rfl, hb⟩ : ∃ (d : PyData) (zn : Nat), Dq K H4 y d ∧ z = .int (zn : Int) ∧ [okO m d1, okO o d2][i]? = some (okO zn d) := by
                    have : i < 2 := hi
                    rcases (show i = 0 ∨ i = 1 by omega) with rfl | rfl
                    · cases hy
                      cases hz
                      exact ⟨d1, m, q1, rfl, rfl⟩
                    · cases hy
                      cases hz
                      exact ⟨d2, o, q2, rfl, rfl⟩
                  have s6 := Same.upd s5 (o := .tup [y, .int (zn : Int)]) nt
                  have Dt : D ≠ t := ne_of_none hD nt
                  have fin : ∀ {b : Bool}, b = okO zn d → ∃ acc, upd H5 t (.tup [y, .int (zn : Int)]) D = some (.lst acc) ∧ acc.length < sizeLine ∧ upd (upd H5 t (.tup [y, .int (zn : Int)])) D (.lst (acc ++ [.bl b])) D = some (.lst (([okO m d1, okO o d2].take (i + 1)).map V.bl)) ∧ Same H4 (upd (upd H5 t (.tup [y, .int (zn : Int)])) D (.lst (acc ++ [.bl b]))) := fun {b} e => by
                    refine ⟨_, by rw [upd_ne Dt]; exact hD, ?_, ?_, fun p' o' e' => ?_⟩
                    · have : sizeLine = 16777216 := sizeLine_eq
                      rw [List.length_map, List.length_take]
                      have : i < 2 := hi
                      omega
                    · rw [upd_same, List.take_succ, hb, e, List.map_append]
                      rfl
                    · rw [upd_ne (ne_of_none e' nD)]
                      exact s6 _ _ e'
                  refine ⟨t, _, rfl, SqT.of upd_same, rfl, _, _, rfl, _, _, rfl, rfl, rfl, _, rfl, rfl, ?_⟩
                  rw [non_is hq]
                  cases hn : nonD d with
                  | true =>
                    refine ⟨true, rfl, iteT (fin ?_)⟩
                    unfold okO
                    rw [hn]
                    rfl
                  | false =>
                    refine ⟨false, rfl, iteF ⟨_, rfl, _, rfl, _, _, rfl, rfl, y, d, 0, (zn : Int) - 1, rfl, hq.same s6, fin ?_⟩⟩
                    rw [hq.okV]
                    unfold okO
                    rw [hn]
                    rfl
                · rintro H5 ⟨hD, s5⟩
                  refine ⟨D, [okO m d1, okO o d2], rfl, SqL.of hD, _, rfl, ?_⟩
                  have ea : ([okO m d1, okO o d2].all id) = (okO m d1 && okO o d2) := by simp
                  rw [ea]
                  have s6 := s1.trans s5
                  have hx := hx.ext s5
                  cases hall : (okO m d1 && okO o d2) with
                  | false =>
                    rw [hall, Bool.and_false] at k
                    exact iteT (k H5 s6)
                  | true =>
                    rw [hall, Bool.and_true] at k
                    refine iteF ⟨_, rfl, a, _, 1, _, rfl, rfl, hx, rfl, rfl, ?_⟩
                    rw [non_is q1]
                    cases h1 : nonD d1 with
                    | false =>
                      rw [h1] at k
                      exact ⟨_, rfl, iteT (k H5 s6)⟩
                    | true =>
                      rw [h1, Bool.true_and] at k
                      refine ⟨_, rfl, iteF ⟨_, rfl, a, _, 2, _, rfl, rfl, hx, rfl, rfl, ?_⟩⟩
                      rw [non_is q2]
                      exact k H5 s6
  · refine ⟨_, rfl, _, _, _, _, _, rfl, .ty _, ty, kit_ty kt, _, rfl, ?_⟩
    have e : condD hs.length ks.length rs.length qs.length d = false := by
      cases d with
      | tuple ds => exact absurd rfl (no ds)
      | _ => rfl
    rw [e] at k
    exact k H (Same.refl H)
end
end K09

set_option Elab.async false
set_option linter.all false
set_option maxRecDepth 100000
set_option maxHeartbeats 8000000
namespace K09
open PySem L2 Xby
theorem cut_one (l : List V) : cutV l none (some 1) = l.take 1 := by
  unfold cutV HT.sIx
  cases l with
  | nil => rfl
  | cons x l => simp
def told : Option V → List V
  | none => []
  | some x => [x]
theorem told_badIn (P : PyData → Bool) : ∀ {xs : List V} {ds : List PyData}, xs.length = ds.length → (kept (fun i => xs.getD i .non) (fun i => !P (ds.getD i .none)) xs.length).take 1 = told (badIn P xs ds)
  | [], _, _ => rfl
  | _ :: _, [], h => by simp at h
  | x :: xs, d :: ds, h => by
    have ih := told_badIn P (xs := xs) (ds := ds) (by simpa using h)
    have e : kept (fun i => (x :: xs).getD i .non) (fun i => !P ((d :: ds).getD i .none)) (x :: xs).length = (if (!P d) = true then [x] else []) ++ kept (fun i => xs.getD i .non) (fun i => !P (ds.getD i .none)) xs.length := by
      unfold kept
      rw [List.length_cons, List.range_succ_eq_map, List.filter_cons, List.filter_map]
      have e1 : ((fun i => !P ((d :: ds).getD i .none)) ∘ Nat.succ) = fun i => !P (ds.getD i .none) := rfl
      rw [e1]
      show (if (!P d) = true then _ else _ : List Nat).map _ = _
      split
      · rw [List.map_cons, List.map_map]
        rfl
      · rw [List.map_map]
        rfl
    rw [e]
    unfold badIn
    cases P d with
    | true => exact ih
    | false => rfl
def spBad (K : PySem.W.Frag) (C : Addr) : Sp := fun vs H Q _ => ∃ (one other : Addr) (v : V) (d : PyData) (xs : List V) (hs ks : List Str) (rs qs : List (List V)), vs = [.ref one, .ref other, v] ∧ IsTab K C H one hs rs ∧ IsTab K C H other ks qs ∧ Its K H v d xs ∧
  ∀ p H', Same H H' → H' p = some (.lst (told (badConds hs.length ks.length rs.length qs.length v d xs))) → Q (.ref p) H'
section
variable {P : Program} {w : World} {K : PySem.W.Frag} {mg : Str → Option Value} {base : Heap}
abbrev s_law_bad : Stmt := top 54
theorem sc_law_bad : FnScope ["_law_first", "_law_second", "_law_wants", "_law_claim_here"] ["_law_first", "_law_second", "_law_wants"] (defScope s_law_bad) := ⟨rfl, rfl, rfl, by decide +kernel, rfl, by decide +kernel, by decide +kernel⟩
theorem ok_bad {f fI : Addr} {fd fdI : FuncData} (F : Fun K "_law_bad" "_law_bad" s_law_bad f fd) (T : TxtA K mg)
    (c_law_is_claim : ∀ base, Ca P w K mg base CX0 "_law_is_claim" 2 ["_law_first", "_law_second", "_law_value"] (spIsClaim K T.C) fI fdI) : FnOk P w K mg base CX0 3 f fd ["_law_first", "_law_second", "_law_wants"] (spBad K T.C) := by
  have c_law_is_claim := c_law_is_claim base
  refine F.ok sc_law_bad (fun vs H Q E h => ?_) (fun cdv A outer s H vs Q E hr h => ⟨_, (pss_cons (ps_if (PW.pt (pw_or (pt_not (pt_val (pe_callB (call_isiK K rfl) (by rfl) T.b_isinstance (by decide +kernel) (pa_cons (pv 2) (pa_cons (pe_bltn (v := .ty "tuple") (by rfl) T.b_tuple (by decide +kernel) rfl) pa_nil))))) (pw_or1 (pt_cmpR op_gt (pe_callB (call_lenK K rfl) (by rfl) T.b_len (by decide +kernel) (pa_cons (pv 2) pa_nil)) pe_int (nomark _))))) (pss_one (ps_ret (pe_lst (pa_cons (pv 2) pa_nil)))) pss_nil)
    (pss_one (ps_ret (pe_slice (sl_listK K rfl) (pe_lc (own := [("_law_claim_here", 3)]) (g := gName 3) rfl sc_law_bad.nd (pi_tupK K rfl (pv 2)) (blkOk_by (N := ["_law_first", "_law_second", "_law_wants", "_law_claim_here"]) (sc := defScope s_law_bad) (by decide +kernel)) (fun _ _ _ _ _ => (pg_name (i := 3) sc_law_bad.nd rfl (Or.inl rfl))) (fun _ _ _ _ _ => pts_one (pt_not (pt_val (pe_call c_law_is_claim.G (hr.mono (by first | decide | omega)) (by rfl) c_law_is_claim.g c_law_is_claim.k c_law_is_claim.B .nil pass0 (pa_cons (pv 0) (pa_cons (pv 1) (pa_cons (pv 3) pa_nil))))))) (fun _ _ _ _ _ => (pv 3))) po_none (po_some pe_int))))), ?_⟩)
  · obtain ⟨_, _, _, _, _, _, _, _, _, rfl, _⟩ := h
    rfl
  obtain ⟨one, other, v, d, xs, hs, ks, rs, qs, rfl, t1, t2, its, k⟩ := h
  rcases its.h.isTup with ⟨_, _, ds, _, e, _, _⟩ | ⟨T', ty, kt, no⟩
  · subst e
    obtain ⟨a, rfl, hx, ha⟩ := its.x ds rfl
    have len := ha.len
    refine ⟨_, rfl, _, _, _, _, _, rfl, .ty _, tyTup hx, kit_ty kit_tt, _, rfl, ?_⟩
    refine ⟨_, rfl, _, _, rfl, .inr ⟨xs, hx, rfl⟩, _, _, rfl, rfl, _, rfl, ite2 (fun h => ?_) (fun h => ?_)⟩
    · have m : 40 < ds.length := by
        have := of_decide_eq_true h
        omega
      refine ⟨_, rfl, by show 1 ≤ sizeLine; decide, fun p np => k p _ (Same.one np) ?_⟩
      have eb : badConds hs.length ks.length rs.length qs.length (.ref a) (.tuple ds) xs = some (.ref a) := if_pos m
      rw [eb]
      exact upd_same
    have m : ¬ 40 < ds.length := fun z => h (decide_eq_true (by omega))
    have eb : badConds hs.length ks.length rs.length qs.length (.ref a) (.tuple ds) xs = badIn (condD hs.length ks.length rs.length qs.length) xs ds := if_neg m
    rw [eb, ← told_badIn _ len] at k
    have line : xs.length < sizeLine := by have : sizeLine = 16777216 := sizeLine_eq; omega
    refine ⟨_, rfl, a, rfl, ⟨_, hx⟩, fun D nD => lc_growT hx nD line (fun i => xs.getD i .non) (fun i => !condD hs.length ks.length rs.length qs.length (ds.getD i .none)) (fun i x H2 Z N hi s2 kz kn' => ?_) (fun H1 s1 hD => ?_)⟩
    · obtain ⟨e, he, hq⟩ := ha.get hi
      have hx' : xs.getD i .non = x := by rw [List.getD_eq_getElem?_getD, hi]; rfl
      have hd' : ds.getD i .none = e := by rw [List.getD_eq_getElem?_getD, he]; rfl
      rw [hx', hd'] at kz
      rw [hd'] at kn'
      refine ⟨rfl, _, rfl, _, rfl, _, rfl, one, other, x, e, hs, ks, rs, qs, rfl, t1.same s2, t2.same s2, hq.same s2, fun H3 s3 => ⟨_, rfl, ?_⟩⟩
      cases hc : condD hs.length ks.length rs.length qs.length e with
      | true => exact iteF (kn' H3 s3 (by rw [hc]; rfl))
      | false => exact iteT ⟨_, rfl, kz H3 s3 (by rw [hc]; rfl)⟩
    · refine ⟨1, rfl, D, _, rfl, SqL.of hD, fun p np => k p _ (Same.upd s1 np) ?_⟩
      rw [upd_same, cut_one]
  · refine ⟨_, rfl, _, _, _, _, _, rfl, .ty _, ty, kit_ty kt, _, rfl, ?_⟩
    refine ⟨_, rfl, by show 1 ≤ sizeLine; decide, fun p np => k p _ (Same.one np) ?_⟩
    have eb : badConds hs.length ks.length rs.length qs.length v d xs = some v := by
      cases d with
      | tuple ds => exact absurd rfl (no ds)
      | _ => rfl
    rw [eb]
    exact upd_same
end
end K09

set_option Elab.async false
set_option linter.all false
set_option maxRecDepth 100000
set_option maxHeartbeats 8000000
namespace K09
open PySem L2 Xby
def ts (s : Str) (EX : Addr) : Suite := fun a cls d => tRet (tTup (tCons (tC (.str s)) (tCons (L2.LowV.tByLow EX a cls d (tVar 4)) tNil)))
def clauses (EA EB : Addr) : List (Value × Suite) := [(.ref EA, ts "laid" EA), (.ref EB, ts "claim" EB)]
def spHeard (K : PySem.W.Frag) (C : Addr) : Sp := fun vs H Q _ => ∃ (one other : Addr) (v u : V) (d c : PyData) (xs : List V) (hs ks : List Str) (rs qs : List (List V)) (tag : Str) (x : V), vs = [.ref one, .ref other, v, u] ∧ IsTab K C H one hs rs ∧ IsTab K C H other ks qs ∧ Dq K H v d ∧ Few1 d ∧ Its K H u c xs ∧
  ((laidD hs.length ks.length rs.length qs.length d = false ∧ tag = "laid" ∧ x = v) ∨ (laidD hs.length ks.length rs.length qs.length d = true ∧ badConds hs.length ks.length rs.length qs.length u c xs = some x ∧ tag = "claim")) ∧
  ∀ t H', Same H H' → H' t = some (.tup [.str tag, x]) → Q (.ref t) H'
section
variable {P : Program} {w : World} {K : PySem.W.Frag} {mg : Str → Option Value} {base : Heap}
abbrev s_law_heard : Stmt := top 55
theorem sc_law_heard : FnScope ["_law_first", "_law_second", "_law_laid_here", "_law_wants", "error"] ["_law_first", "_law_second", "_law_laid_here", "_law_wants"] (defScope s_law_heard) := ⟨rfl, rfl, rfl, by decide +kernel, rfl, by decide +kernel, by decide +kernel⟩
theorem ok_heard {f fK : Addr} {fd fdK : FuncData} (F : Fun K "_law_heard" "_law_heard" s_law_heard f fd) (T : TxtA K mg) (xBA : PySem.W.exmOne K (.ref T.EB) (.ref T.EA) = some false)
    (c_keeps : ∀ base, Ca P w K mg base (L2.CX P w) "keeps" 8 ["one", "other", "alignment", "conditions"] (spKeeps K T.C T.EA T.EB) fK fdK) : FnOk P w K mg base CX0 9 f fd ["_law_first", "_law_second", "_law_laid_here", "_law_wants"] (spHeard K T.C) := by
  have c_keeps := c_keeps base
  refine F.ok sc_law_heard (fun vs H Q E h => ?_) (fun cdv A outer s H vs Q E hr h => ⟨_, (pss_cons (ps_try_each (i := 4) (n := "error") (l := clauses T.EA T.EB) (tb := fun W => tDrop (tCallS (spKeeps K T.C T.EA T.EB) (WE W) (tCons (tVar 0) (tCons (tVar 1) (tCons (tVar 2) (tCons (tVar 3) tNil)))))) (out := fun _ _ _ _ => False) rfl rfl sc_law_heard.nd rfl rfl takes0 (fun W pn xe tk _ => pss_one (ps_expr (by exact (pe_callS c_keeps.G (hr.mono (by decide)) rfl c_keeps.g c_keeps.k c_keeps.B (fun σ => passAt tk σ) (by exact (pa_cons (pv 0) (pa_cons (pv 1) (pa_cons (pv 2) (pa_cons (pv 3) pa_nil))))))))) (.cons ⟨rfl, by decide, Or.inl T.eA.gC⟩ (fun a oe cls d pn hz hf => pss_one (ps_ret (pe_tup (pa_cons pe_str (pa_cons (L2.LowV.pe_byLow T.eA hz hf (pv 4)) pa_nil))))) (.cons ⟨rfl, by decide, Or.inl T.eB.gC⟩ (fun a oe cls d pn hz hf => pss_one (ps_ret (pe_tup (pa_cons pe_str (pa_cons (L2.LowV.pe_byLow T.eB hz hf (pv 4)) pa_nil))))) .nil)))
    (pss_one (ps_ret (pe_tup (pa_cons pe_str (pa_cons pe_non pa_nil)))))), ?_⟩)
  · obtain ⟨_, _, _, _, _, _, _, _, _, _, _, _, _, rfl, _⟩ := h
    rfl
  obtain ⟨one, other, v, u, d, c, xs, hs, ks, rs, qs, tag, x, rfl, t1, t2, hd, few, its, how, k⟩ := h
  refine ⟨_, rfl, _, rfl, _, rfl, _, rfl, one, other, v, u, d, c, xs, hs, ks, rs, qs, rfl, t1, t2, hd, few, its, fun hl e H' s1 he => ?_, fun hl z hz e H' s1 he => ?_, fun hl hb => ?_⟩
  · rcases how with ⟨_, rfl, rfl⟩ | ⟨h1, _⟩
    · refine ⟨true, T.eA.te, fun _ a0 na => ?_, fun q => Bool.noConfusion q⟩
      refine ⟨_, rfl, rfl, rfl, e, _, rfl, he, by show 2 ≤ sizeLine; decide, fun t nt => k t _ (Same.upd s1 nt) upd_same⟩
    · rw [hl] at h1
      cases h1
  · rcases how with ⟨h1, _⟩ | ⟨_, hz', rfl⟩
    · rw [hl] at h1
      cases h1
    · rw [hz] at hz'
      cases hz'
      refine ⟨false, xBA, fun q => Bool.noConfusion q, fun _ => ⟨true, T.eB.te, fun _ a0 na => ?_, fun q => Bool.noConfusion q⟩⟩
      refine ⟨_, rfl, rfl, rfl, e, _, rfl, he, by show 2 ≤ sizeLine; decide, fun t nt => k t _ (Same.upd s1 nt) upd_same⟩
  · rcases how with ⟨h1, _⟩ | ⟨_, hz', _⟩
    · rw [hl] at h1
      cases h1
    · rw [hb] at hz'
      cases hz'
end
end K09

set_option Elab.async false
set_option linter.all false
set_option maxRecDepth 100000
set_option maxHeartbeats 8000000
namespace K09
open PySem L2 Xby
def spCase (K : PySem.W.Frag) (C : Addr) : Sp := fun vs H Q _ => ∃ (p one other : Addr) (hs ks : List Str) (rs qs : List (List V)) (n : Nat), vs = [.ref p, .ref one, .ref other] ∧ IsTab K C H one hs rs ∧ IsTab K C H other ks qs ∧ n + 200 ≤ 1000000 ∧ Pot H p n ∧
  ∀ t v u H', H' t = some (.tup [v, u]) → Okd K p 400 8 H' v → Okd K p 2000 8 H' u → Pot H' p (n + 200) → But p H H' → Q (.ref t) H'
def o7 (x : _root_.Fin 7) : Option Int := if x.val < 6 then some (x.val : Int) else none
theorem szc : ∀ (row : Bool) (i j : _root_.Fin 7) (t : Bool), Sz 19 1 (.tuple [.str (kn row), datO (o7 i), datO (o7 j), .bool t]) := by decide +kernel
theorem ex6 {o : Option Int} {m : Nat} (hm : m ≤ 6) (h : ∀ x, o = some x → 0 ≤ x ∧ x < (m : Int)) : ∃ i : _root_.Fin 7, o = o7 i := by
  cases o with
  | none => exact ⟨6, rfl⟩
  | some x =>
    obtain ⟨h0, h1⟩ := h x rfl
    have h6 : x.toNat < 6 := by omega
    refine ⟨⟨x.toNat, by omega⟩, ?_⟩
    unfold o7
    rw [if_pos h6]
    show some x = some ((x.toNat : Nat) : Int)
    rw [Int.toNat_of_nonneg h0]
theorem op_repTK {X : Cx} (K : PySem.W.Frag) (hK : X.K = K) : OpR X (binaryOp .Mult) (rRepT K) := by
  subst hK
  exact op_repT
theorem sz_cnd {m o r q : Nat} {c : Cnd} (hm : m ≤ 6) (ho : o ≤ 6) (hr : r ≤ 6) (hq : q ≤ 6) (h : CndOk m o r q c) : Sz 19 1 (datCnd c) := by
  obtain ⟨row, i, j, t⟩ := c
  obtain ⟨hi, hj, _⟩ := h
  obtain ⟨i', rfl⟩ := ex6 (m := if row then r else m) (by split <;> omega) hi
  obtain ⟨j', rfl⟩ := ex6 (m := if row then q else o) (by split <;> omega) hj
  exact szc row i' j' t
theorem cnds_wo {K : PySem.W.Frag} {H : Hp} {p : Addr} {n : Nat} {xs : List V} {l : List Cnd} (h : Cnds K H xs l) (pot : Pot H p n) : Cnds K (Xby.wo p H) xs l := by
  induction h with
  | nil => exact .nil
  | cons e n' _ ih => exact .cons (seqWo e pot) n' ih
theorem sz_cnds {m o r q N : Nat} {l : List Cnd} (hm : m ≤ 6) (ho : o ≤ 6) (hr : r ≤ 6) (hq : q ≤ 6) (h : ∀ c ∈ l, CndOk m o r q c) (hl : l.length ≤ N) : Sz (20 * N) 2 (.tuple (l.map datCnd)) := by
  refine (Sz.tup (w := 19) (k := 1) fun d hd => ?_).more ?_ (by decide)
  · obtain ⟨c, hc, rfl⟩ := List.mem_map.mp hd
    exact sz_cnd hm ho hr hq (h c hc)
  · rw [List.length_map]
    exact Nat.mul_le_mul_left _ hl
def wB : Nat → Nat
  | 0 => 60
  | i + 1 => 2 * wB i + 113
theorem wB_le {i : Nat} (h : i ≤ 2) : wB i ≤ 579 := by
  match i, h with
  | 0, _ => decide
  | 1, _ => decide
  | 2, _ => decide
def MidV (K : PySem.W.Frag) (p one other : Addr) (t : V) (w k n : Nat) (H : Hp) (σ : St) (H' : Hp) : Prop := ∃ (v : V) (o5 : Option V), σ = [some (.ref p), some (.ref one), some (.ref other), some v, some t, o5] ∧ Okd K p 400 8 H' v ∧ Okd K p w k H' t ∧ Pot H' p n ∧ But p H H'
def MidU (K : PySem.W.Frag) (p one other : Addr) (n : Nat) (H : Hp) (σ : St) (H' : Hp) : Prop := ∃ (v t : V) (o5 : Option V), σ = [some (.ref p), some (.ref one), some (.ref other), some v, some t, o5] ∧ Okd K p 400 8 H' v ∧ Okd K p 2000 8 H' t ∧ Pot H' p n ∧ But p H H'
section
variable {P : Program} {w : World} {K : PySem.W.Frag} {mg : Str → Option Value} {base : Heap}
abbrev s_law_case : Stmt := top 56
theorem sc_law_case : FnScope ["_law_pot_here", "_law_first", "_law_second", "_law_laid_here", "_law_wants", "_law_turn"] ["_law_pot_here", "_law_first", "_law_second"] (defScope s_law_case) := ⟨rfl, rfl, rfl, by decide +kernel, rfl, by decide +kernel, by decide +kernel⟩
theorem ok_case {f fD fL fC fB : Addr} {fd fdD fdL fdC fdB : FuncData} (F : Fun K "_law_case" "_law_case" s_law_case f fd) (T : TxtA K mg)
    (c_law_draw : ∀ base, Ca P w K mg base CX0 "_law_draw" 1 ["_law_pot_here", "_law_many"] spDraw fD fdD) (c_law_laid : ∀ base, Ca P w K mg base CX0 "_law_laid" 3 ["_law_pot_here", "_law_first", "_law_second"] (spLaid K T.C) fL fdL)
    (c_law_claim : ∀ base, Ca P w K mg base CX0 "_law_claim" 3 ["_law_pot_here", "_law_first", "_law_second"] (spClaim K T.C) fC fdC) (c_law_bent : ∀ base, Ca P w K mg base CX0 "_law_bent" 7 ["_law_pot_here", "_law_thing", "_law_deep"] (spBent K 4) fB fdB) : FnOk P w K mg base CX0 8 f fd ["_law_pot_here", "_law_first", "_law_second"] (spCase K T.C) := by
  have c_law_draw := c_law_draw base
  have c_law_laid := c_law_laid base
  have c_law_claim := c_law_claim base
  have c_law_bent := c_law_bent base
  refine F.ok sc_law_case (fun vs H Q E h => ?_) (fun cdv A outer s H vs Q E hr h => ⟨_, (pss_cons (ps_set (i := 3) sc_law_case.nd rfl (Or.inl rfl) (pe_call c_law_laid.G (hr.mono (by first | decide | omega)) (by rfl) c_law_laid.g c_law_laid.k c_law_laid.B .nil pass0 (pa_cons (pv 0) (pa_cons (pv 1) (pa_cons (pv 2) pa_nil)))))
    (pss_cons (ps_set (i := 4) sc_law_case.nd rfl (Or.inl rfl) (pe_callTy (call_tupleK K rfl) (by rfl) T.b_tuple (by decide +kernel) (pa_cons (pe_lc (own := [("_law_turn", 5)]) (g := gName 5) (tt := tYes) rfl sc_law_case.nd (pi_range1 (by rfl) T.b_range (pa_cons (pe_call c_law_draw.G (hr.mono (by first | decide | omega)) (by rfl) c_law_draw.g c_law_draw.k c_law_draw.B .nil pass0 (pa_cons (pv 0) (pa_cons pe_int pa_nil))) pa_nil)) (blkOk_by (N := ["_law_pot_here", "_law_first", "_law_second", "_law_laid_here", "_law_wants", "_law_turn"]) (sc := defScope s_law_case) (by decide +kernel)) (fun _ _ _ _ _ => (pg_name (i := 5) sc_law_case.nd rfl (Or.inl rfl))) (fun _ _ _ _ _ => pts_nil) (fun _ _ _ _ _ => (pe_call c_law_claim.G (hr.mono (by first | decide | omega)) (by rfl) c_law_claim.g c_law_claim.k c_law_claim.B .nil pass0 (pa_cons (pv 0) (pa_cons (pv 1) (pa_cons (pv 2) pa_nil)))))) pa_nil)))
    (Evl.pss_cut (ps_if (pt_cmpR op_eq (pe_call c_law_draw.G (hr.mono (by first | decide | omega)) (by rfl) c_law_draw.g c_law_draw.k c_law_draw.B .nil pass0 (pa_cons (pv 0) (pa_cons pe_int pa_nil))) pe_int (nomark _)) (pss_one (ps_set (i := 3) sc_law_case.nd rfl (Or.inl rfl) (pe_call c_law_bent.G (hr.mono (by first | decide | omega)) (by rfl) c_law_bent.g c_law_bent.k c_law_bent.B .nil pass0 (pa_cons (pv 0) (pa_cons (pv 3) (pa_cons pe_int pa_nil)))))) pss_nil)
    (pss_cons (ps_for PassesOwn.never rfl (pi_range1 (by rfl) T.b_range (pa_cons (pe_call c_law_draw.G (hr.mono (by first | decide | omega)) (by rfl) c_law_draw.g c_law_draw.k c_law_draw.B .nil pass0 (pa_cons (pv 0) (pa_cons pe_int pa_nil))) pa_nil)) (pg_name (i := 5) sc_law_case.nd rfl (Or.inl rfl)) (pss_one (ps_set (i := 4) sc_law_case.nd rfl (Or.inl rfl) (pe_call c_law_bent.G (hr.mono (by first | decide | omega)) (by rfl) c_law_bent.g c_law_bent.k c_law_bent.B .nil pass0 (pa_cons (pv 0) (pa_cons (pv 4) (pa_cons pe_int pa_nil)))))))
    (Evl.pss_cut (ps_if (pt_cmpR op_eq (pe_call c_law_draw.G (hr.mono (by first | decide | omega)) (by rfl) c_law_draw.g c_law_draw.k c_law_draw.B .nil pass0 (pa_cons (pv 0) (pa_cons pe_int pa_nil))) pe_int (nomark _)) (pss_one (ps_set (i := 4) sc_law_case.nd rfl (Or.inl rfl) (pe_op (op_repTK K rfl) (pe_tup (pa_cons (pe_call c_law_claim.G (hr.mono (by first | decide | omega)) (by rfl) c_law_claim.g c_law_claim.k c_law_claim.B .nil pass0 (pa_cons (pv 0) (pa_cons (pv 1) (pa_cons (pv 2) pa_nil)))) pa_nil)) (pe_op op_add pe_int (pe_call c_law_draw.G (hr.mono (by first | decide | omega)) (by rfl) c_law_draw.g c_law_draw.k c_law_draw.B .nil pass0 (pa_cons (pv 0) (pa_cons pe_int pa_nil))))))) pss_nil)
    (pss_one (ps_ret (pe_tup (pa_cons (pv 3) (pa_cons (pv 4) pa_nil)))))))))), ?_⟩)
  · obtain ⟨_, _, _, _, _, _, _, _, rfl, _⟩ := h
    rfl
  obtain ⟨p, one, other, hs, ks, rs, qs, n, rfl, t1, t2, hn, pot, k⟩ := h
  obtain ⟨l1, l2, l3⟩ := Tab.len t1
  obtain ⟨l4, l5, l6⟩ := Tab.len t2
  refine ⟨_, rfl, _, rfl, _, rfl, p, one, other, hs, ks, rs, qs, n, rfl, t1, t2, by omega, pot, fun a H1 cs ps laid okc okp inc inp nil pot1 but1 => ?_⟩
  have lz := sz_laid (by omega) (by omega) (by omega) (by omega) okc inc okp inp
  have oa : Okd K p 134 3 H1 (.ref a) := ⟨_, laid.dqp pot1, lz⟩
  clear laid lz okc okp inc inp nil
  refine ⟨_, rfl, p, 4, n + 40, rfl, ⟨by decide, by decide⟩, by omega, pot1, fun r4 H2 r0 r1 pot2 but2 => ⟨r4, rfl, by omega, by omega, fun D nD => lc_range (lo := 0) (n := r4.toNat) (fun j H' => ∃ (acc : List V) (l : List Cnd), H' D = some (.lst acc) ∧ Cnds K H' acc l ∧ (∀ c ∈ l, CndOk hs.length ks.length rs.length qs.length c) ∧ l.length = j ∧ Pot H' p (n + 41 + 10 * j) ∧ But p H2 H')
    ⟨[], [], upd_same, .nil, by simp, rfl, pot2.new nD, But.of (Same.one nD)⟩ ?_ ?_⟩⟩
  · rintro j H3 hj ⟨acc, l, hD, cn, ok, ll, pot3, but3⟩
    have Dp : D ≠ p := (pot2.ne nD).symm
    have t1 := ((t1.but pot but1).but pot1 but2).but pot2 but3
    have t2 := ((t2.but pot but1).but pot1 but2).but pot2 but3
    refine ⟨rfl, _, rfl, _, rfl, _, rfl, p, one, other, hs, ks, rs, qs, n + 41 + 10 * j, rfl, t1, t2, by omega, pot3, fun b H4 c hc okc pot4 but4 => ?_⟩
    have hD4 := but4 D _ Dp hD
    have sl : sizeLine = 16777216 := sizeLine_eq
    have la := cn.len
    refine ⟨acc, hD4, by omega, acc ++ [.ref b], l ++ [c], upd_same, ((cn.but pot3 but4).snoc (SqT.of hc) okc.n).butL hD4 But.upd1, fun c' hc' => ?_, by rw [List.length_append, ll]; rfl, (pot4.more (by omega)).upd Dp.symm, (but3.trans but4).updN nD⟩
    rcases List.mem_append.mp hc' with hc' | hc'
    · exact ok c' hc'
    · obtain rfl : c' = c := by simpa using hc'
      exact okc
  rintro H3 ⟨acc, l, hD, cn, ok, ll, pot3, but3⟩
  have three : l.length ≤ 3 := by omega
  refine ⟨D, acc, rfl, .inl ⟨SqL.of hD, fun t nt => ?_⟩⟩
  have st := Same.one (o := .tup acc) nt
  have ot : Okd K p 60 3 (upd H3 t (.tup acc)) (.ref t) := ⟨_, newTup pot3 nt (cnds_wo cn pot3).dq, (sz_cnds (by omega) (by omega) (by omega) (by omega) ok three).more (by decide) (by decide)⟩
  have but5 : But p H _ := ((but1.trans but2).trans but3).same st
  have pot5 := (pot3.same st).more (show n + 41 + 10 * r4.toNat ≤ n + 71 by omega)
  have oa := ((oa.but but2).but but3).but (But.of st)
  clear cn ok ll three hD pot3 but3 nt nD pot2 but2 pot1 but1
  generalize upd H3 t (.tup acc) = H5 at st ot but5 pot5 oa ⊢
  clear st
  refine ⟨MidV K p one other (.ref t) 60 3 (n + 112) H, ?_, ?_⟩
  · refine ⟨_, rfl, p, 4, n + 71, rfl, ⟨by decide, by decide⟩, by omega, pot5, fun r H6 r0 r1 pot6 but6 => ⟨rfl, _, rfl, ite2 (fun _ => ?_) (fun _ => ?_)⟩⟩
    · obtain ⟨da, qa, za⟩ := oa.but but6
      exact ⟨_, rfl, _, rfl, p, .ref a, da, 3, 134, 3, n + 72, rfl, by decide, qa, za, by decide, by omega, pot6, fun v' H7 ov pot7 but7 => ⟨v', _, rfl, ov.more (by decide) (by decide), (ot.but but6).but but7, pot7.more (by omega), (but5.trans but6).trans but7⟩⟩
    · exact ⟨_, _, rfl, (oa.but but6).more (by decide) (by decide), ot.but but6, pot6.more (by omega), but5.trans but6⟩
  clear oa ot pot5 but5
  rintro σ H8 ⟨v, o5, rfl, ov, ot, pot8, but8⟩
  refine ⟨_, rfl, p, 3, n + 112, rfl, ⟨by decide, by decide⟩, by omega, pot8, fun r3 H9 r0 r1 pot9 but9 => ⟨r3, rfl, by omega, by omega, for_range (lo := 0) (n := r3.toNat) (fun i σ H' => ∃ (u : V) (o5 : Option V), σ = [some (.ref p), some (.ref one), some (.ref other), some v, some u, o5] ∧ Okd K p 400 8 H' v ∧ Okd K p (wB i) (3 + 2 * i) H' u ∧ Pot H' p (n + 113 + 30 * i) ∧ But p H H')
    ⟨_, _, rfl, ov.but but9, ot.but but9, pot9, but8.trans but9⟩ ?_ ?_⟩⟩
  · rintro i σ H10 hi ⟨u, o6, rfl, ov, ot, pot10, but10⟩
    obtain ⟨d, q, z⟩ := ot
    have wi := wB_le (show i ≤ 2 by omega)
    exact ⟨_, rfl, _, rfl, p, u, d, 2, wB i, 3 + 2 * i, n + 113 + 30 * i, rfl, by decide, q, z, by omega, by omega, pot10, fun v' H11 ov' pot11 but11 => ⟨v', _, rfl, ov.but but11, ov'.more (Nat.le_refl _) (by omega), pot11.more (by omega), but10.trans but11⟩⟩
  clear ov ot pot8 but8 pot9 but9
  rintro σ H10 ⟨u, o6, rfl, ov, ot, pot10, but10⟩
  have ot : Okd K p 2000 8 H10 u := ot.more (by have := wB_le (show r3.toNat ≤ 2 by omega); omega) (by omega)
  have pot10 := pot10.more (show n + 113 + 30 * r3.toNat ≤ n + 173 by omega)
  refine ⟨MidU K p one other (n + 190) H, ?_, ?_⟩
  · refine ⟨_, rfl, p, 8, n + 173, rfl, ⟨by decide, by decide⟩, by omega, pot10, fun r H12 r0 r1 pot12 but12 => ⟨rfl, _, rfl, ite2 (fun _ => ?_) (fun _ => ?_)⟩⟩
    · have but12' := but10.trans but12
      refine ⟨_, rfl, _, rfl, _, rfl, p, one, other, hs, ks, rs, qs, n + 174, rfl, t1.but pot but12', t2.but pot but12', by omega, pot12, fun b H13 c hc okc pot13 but13 => ⟨by show 1 ≤ sizeLine; decide, fun e ne => ⟨_, rfl, p, 2, n + 184, rfl, ⟨by decide, by decide⟩, by omega, pot13.new ne, fun r2 H14 q0 q1 pot14 but14 => ?_⟩⟩⟩
      have hs14 : SqT K H14 e [.ref b] := seqBut (SqT.of upd_same) (pot13.new ne) but14
      have cn : Cnds K H14 [.ref b] [c] := (Cnds.same (.cons (SqT.of hc) okc.n .nil) (Same.one ne)).but (pot13.new ne) but14
      have but14' := (((but12.trans but13).new ne).trans but14)
      refine ⟨_, _, rfl, rfl, e, 40 + r2, [.ref b], rfl, rfl, hs14, by simp, by omega, by omega, by show 1 ≤ 1000; decide, fun t2 nt2 => ?_⟩
      have st := Same.one (o := .tup (List.replicate (40 + r2).toNat [V.ref b]).flatten) nt2
      refine ⟨v, .ref t2, _, rfl, (ov.but but14').but (But.of st), ⟨_, newTup pot14 nt2 (cnds_wo (cn.rep (40 + r2).toNat) pot14).dq, (sz_cnds (m := hs.length) (o := ks.length) (r := rs.length) (q := qs.length) (N := 41) (by omega) (by omega) (by omega) (by omega) (fun c' hc' => ?_) ?_).more (by decide) (by decide)⟩, (pot14.new nt2).more (by omega), (but10.trans but14').same st⟩
      · obtain ⟨l', hl', hc2⟩ := List.mem_flatten.mp hc'
        rw [(List.mem_replicate.mp hl').2] at hc2
        obtain rfl : c' = c := by simpa using hc2
        exact okc
      · rw [List.length_flatten, List.map_replicate, List.sum_replicate_nat]
        show (40 + r2).toNat * 1 ≤ 41
        omega
    · exact ⟨v, u, _, rfl, ov.but but12, ot.but but12, pot12.more (by omega), but10.trans but12⟩
  rintro σ H12 ⟨v, u, o6, rfl, ov, ou, pot12, but12⟩
  exact ⟨_, rfl, _, rfl, by show 2 ≤ sizeLine; decide, fun t nt => k t v u _ upd_same (ov.but (But.of (Same.one nt))) (ou.but (But.of (Same.one nt))) ((pot12.new nt).more (by omega)) (but12.new nt)⟩
end
end K09

set_option Elab.async false
set_option linter.all false
set_option maxRecDepth 100000
set_option maxHeartbeats 8000000
namespace K09
open PySem L2 Xby
structure CaG (P : Program) (w : World) (K : PySem.W.Frag) (mg : Str → Option Value) (base : Heap) (x : Str) (k : Nat) (ps : List Str) (sp : Sp) (f : Addr) (fd : FuncData) : Prop where
  G : FnG P w K mg base CX0 k f fd ps sp
  g : mg x = some (.ref f)
  k : PySem.W.keepIn K (.ref f) = true
  B : Binds K fd ps []
theorem badIn_dq {K : PySem.W.Frag} {H : Hp} {P : PyData → Bool} {x : V} : ∀ {xs : List V} {ds : List PyData}, DqAll K H xs ds → badIn P xs ds = some x → ∃ d ∈ ds, Dq K H x d
  | [], _, .nil, h => by
    unfold badIn at h
    cases h
  | _ :: _, _, .cons q r, h => by
    unfold badIn at h
    split at h
    · obtain ⟨d, hd, hq⟩ := badIn_dq r h
      exact ⟨d, List.mem_cons_of_mem _ hd, hq⟩
    · cases h
      exact ⟨_, List.mem_cons_self .., q⟩
theorem bad_dq {K : PySem.W.Frag} {H : Hp} {m o r q w k : Nat} {u x : V} {c : PyData} {xs : List V} (its : Its K H u c xs) (z : Sz w k c) (h : badConds m o r q u c xs = some x) : ∃ d, Dq K H x d ∧ Sz w k d := by
  have self : some u = some x → ∃ d, Dq K H x d ∧ Sz w k d := fun e => by
    cases e
    exact ⟨c, its.h, z⟩
  cases c with
  | tuple ds =>
    obtain ⟨a, rfl, hx, ha⟩ := its.x ds rfl
    by_cases m40 : 40 < ds.length
    · have : badConds m o r q (.ref a) (.tuple ds) xs = some (.ref a) := if_pos m40
      rw [this] at h
      exact self h
    · have : badConds m o r q (.ref a) (.tuple ds) xs = badIn (condD m o r q) xs ds := if_neg m40
      rw [this] at h
      obtain ⟨d, hd, hq⟩ := badIn_dq ha h
      obtain ⟨j, rfl, si⟩ := z.items
      exact ⟨d, hq, (si.mem hd).more (Nat.le_refl _) (by omega)⟩
  | _ => exact self h
theorem fine_pair {w k v j : Nat} {a b : PyData} (ha : Sz w k a) (hb : Sz v j b) (hw : w ≤ 10000) (hv : v ≤ 10000) (hk : k ≤ 20) (hj : j ≤ 20) : Fine (.tuple [a, b]) := by
  refine (Sz.tup (w := 10000) (k := 20) fun d hd => ?_).fine (by show 10001 * 2 ≤ 200000; decide) (by decide)
  simp only [List.mem_cons, List.not_mem_nil, or_false] at hd
  rcases hd with rfl | rfl
  · exact ha.more hw hk
  · exact hb.more hv hj
theorem sz_tags : Sz 20 0 (.str "laid") ∧ Sz 20 0 (.str "claim") := by decide +kernel
def MidF (p one other : Addr) (v u : V) (sh : Str) (H : Hp) (σ : St) (H' : Hp) : Prop := ∃ (o3 o7 : Option V), σ = [some (.ref p), some (.ref one), some (.ref other), o3, some v, some u, some (.str sh), o7] ∧ Same H H'
def spRight (K : PySem.W.Frag) : Sp := fun vs H Q _ => ∃ (p : Addr) (n : Nat), vs = [.ref p] ∧ n + 3000 ≤ 1000000 ∧ Pot H p n ∧ ∀ H', Pot H' p (n + 3000) → But p H H' → Q (.bl true) H'
section
variable {P : Program} {w : World} {K : PySem.W.Frag} {mg : Str → Option Value} {base : Heap}
abbrev s_law_right : Stmt := top 57
theorem sc_law_right : FnScope ["_law_pot_here", "_law_first", "_law_second", "_law_turn", "_law_laid_here", "_law_wants", "_law_shown", "_law_bad_here"] ["_law_pot_here"] (defScope s_law_right) := ⟨rfl, rfl, rfl, by decide +kernel, rfl, by decide +kernel, by decide +kernel⟩
theorem ok_right {f fT fC fB fI fH fK : Addr} {fd fdT fdC fdB fdI fdH fdK : FuncData} (F : Fun K "_law_right" "_law_right" s_law_right f fd) (T : TxtA K mg)
    (c_law_table : ∀ base, Ca P w K mg base CX0 "_law_table" 7 ["_law_pot_here", "_law_wide", "_law_tall"] (spTable K T.C) fT fdT) (c_law_case : ∀ base, Ca P w K mg base CX0 "_law_case" 8 ["_law_pot_here", "_law_first", "_law_second"] (spCase K T.C) fC fdC)
    (c_law_bad : ∀ base, Ca P w K mg base CX0 "_law_bad" 3 ["_law_first", "_law_second", "_law_wants"] (spBad K T.C) fB fdB) (c_law_is_laid : ∀ base, Ca P w K mg base CX0 "_law_is_laid" 3 ["_law_first", "_law_second", "_law_value"] (spIsAl K T.C) fI fdI)
    (c_law_heard : ∀ base, Ca P w K mg base CX0 "_law_heard" 9 ["_law_first", "_law_second", "_law_laid_here", "_law_wants"] (spHeard K T.C) fH fdH) (c_keeps : ∀ base, Ca P w K mg base (L2.CX P w) "keeps" 8 ["one", "other", "alignment", "conditions"] (spKeeps K T.C T.EA T.EB) fK fdK) : FnG P w K mg base CX0 10 f fd ["_law_pot_here"] (spRight K) := by
  have c_law_table := c_law_table base
  have c_law_case := c_law_case base
  have c_law_bad := c_law_bad base
  have c_law_is_laid := c_law_is_laid base
  have c_law_heard := c_law_heard base
  have c_keeps := c_keeps base
  refine okG F sc_law_right (fun vs H Q E h => ?_) (fun cdv A outer s H vs Q E hg hr h => ⟨_, (pss_cons (ps_par (i := 1) (j := 2) (by rfl) sc_law_right.nd rfl rfl (by decide) rfl rfl (pa_cons (pe_call c_law_table.G (hr.mono (by first | decide | omega)) (by rfl) c_law_table.g c_law_table.k c_law_table.B .nil pass0 (pa_cons (pv 0) (pa_cons pe_int (pa_cons pe_int pa_nil)))) (pa_cons (pe_call c_law_table.G (hr.mono (by first | decide | omega)) (by rfl) c_law_table.g c_law_table.k c_law_table.B .nil pass0 (pa_cons (pv 0) (pa_cons pe_int (pa_cons pe_int pa_nil)))) pa_nil)) (by rfl))
    (pss_cons (ps_for PassesOwn.never rfl (pi_range1 (by rfl) T.b_range (pa_cons pe_int pa_nil)) (pg_name (i := 3) sc_law_right.nd rfl (Or.inl rfl)) (pss_cons (ps_asg (pe_call c_law_case.G (hr.mono (by first | decide | omega)) (by rfl) c_law_case.g c_law_case.k c_law_case.B .nil pass0 (pa_cons (pv 0) (pa_cons (pv 1) (pa_cons (pv 2) pa_nil)))) (pg_tupK K rfl rfl (pgs_cons (pg_name (i := 4) sc_law_right.nd rfl (Or.inl rfl)) (pgs_cons (pg_name (i := 5) sc_law_right.nd rfl (Or.inl rfl)) pgs_nil))))
    (pss_cons (ps_par (i := 6) (j := 7) (by rfl) sc_law_right.nd rfl rfl (by decide) rfl rfl (pa_cons (pe_callB (call_reprK K rfl hg hr.units) (by rfl) T.b_repr (by decide +kernel) (pa_cons (pe_tup (pa_cons (pv 4) (pa_cons (pv 5) pa_nil))) pa_nil)) (pa_cons (pe_call c_law_bad.G (hr.mono (by first | decide | omega)) (by rfl) c_law_bad.g c_law_bad.k c_law_bad.B .nil pass0 (pa_cons (pv 1) (pa_cons (pv 2) (pa_cons (pv 5) pa_nil)))) pa_nil)) (by rfl))
    (Evl.pss_cut (ps_if (pt_not (pt_val (pe_call c_law_is_laid.G (hr.mono (by first | decide | omega)) (by rfl) c_law_is_laid.g c_law_is_laid.k c_law_is_laid.B .nil pass0 (pa_cons (pv 1) (pa_cons (pv 2) (pa_cons (pv 4) pa_nil)))))) (pss_one (ps_if (pt_cmpR op_ne (pe_callB (call_reprK K rfl hg hr.units) (by rfl) T.b_repr (by decide +kernel) (pa_cons (pe_call c_law_heard.G (hr.mono (by first | decide | omega)) (by rfl) c_law_heard.g c_law_heard.k c_law_heard.B .nil pass0 (pa_cons (pv 1) (pa_cons (pv 2) (pa_cons (pv 4) (pa_cons (pv 5) pa_nil))))) pa_nil)) (pe_callB (call_reprK K rfl hg hr.units) (by rfl) T.b_repr (by decide +kernel) (pa_cons (pe_tup (pa_cons pe_str (pa_cons (pv 4) pa_nil))) pa_nil)) (nomark _)) (pss_one (ps_ret pe_bl)) pss_nil)) (pss_one (ps_if (pt_cmpR (op_neNilK K rfl hr.units0) (pv 7) (pe_lst pa_nil) (nomark _)) (pss_one (ps_if (pt_cmpR op_ne (pe_callB (call_reprK K rfl hg hr.units) (by rfl) T.b_repr (by decide +kernel) (pa_cons (pe_call c_law_heard.G (hr.mono (by first | decide | omega)) (by rfl) c_law_heard.g c_law_heard.k c_law_heard.B .nil pass0 (pa_cons (pv 1) (pa_cons (pv 2) (pa_cons (pv 4) (pa_cons (pv 5) pa_nil))))) pa_nil)) (pe_callB (call_reprK K rfl hg hr.units) (by rfl) T.b_repr (by decide +kernel) (pa_cons (pe_tup (pa_cons pe_str (pa_cons (pe_ix (ix_listK K rfl) (pv 7) pe_int (fun _ _ => rfl)) pa_nil))) pa_nil)) (nomark _)) (pss_one (ps_ret pe_bl)) pss_nil)) (pss_one (ps_if (pt_not (pt_val (pe_callB (call_isiK K rfl) (by rfl) T.b_isinstance (by decide +kernel) (pa_cons (pe_call c_keeps.G (hr.mono (by first | decide | omega)) (by rfl) c_keeps.g c_keeps.k c_keeps.B .nil passL (pa_cons (pv 1) (pa_cons (pv 2) (pa_cons (pv 4) (pa_cons (pv 5) pa_nil))))) (pa_cons (pe_bltn (v := .ty "bool") (by rfl) T.b_bool (by decide +kernel) rfl) pa_nil))))) (pss_one (ps_ret pe_bl)) pss_nil)))))
    (pss_one (ps_if (pt_cmpR op_ne (pe_callB (call_reprK K rfl hg hr.units) (by rfl) T.b_repr (by decide +kernel) (pa_cons (pe_tup (pa_cons (pv 4) (pa_cons (pv 5) pa_nil))) pa_nil)) (pv 6) (nomark _)) (pss_one (ps_ret pe_bl)) pss_nil))))))
    (pss_one (ps_ret pe_bl)))), ?_⟩)
  · obtain ⟨_, _, rfl, _⟩ := h
    rfl
  obtain ⟨p, n, rfl, hn, pot, kk⟩ := h
  refine ⟨_, rfl, p, 3, 6, n, rfl, ⟨by decide, by decide⟩, by decide, by omega, pot, fun one H1 hs rs t1 _ _ pot1 but1 => ?_⟩
  refine ⟨_, rfl, p, 3, 6, n + 40, rfl, ⟨by decide, by decide⟩, by decide, by omega, pot1, fun other H2 ks qs t2 _ _ pot2 but2 => ⟨_, _, rfl, ?_⟩⟩
  have t1 := t1.but pot1 but2
  have but := but1.trans but2
  clear but1 but2 pot1
  refine ⟨10, rfl, by decide, by decide, for_range (lo := 0) (n := 10) (fun i σ H' => ∃ (o3 o4 o5 o6 o7 : Option V), σ = [some (.ref p), some (.ref one), some (.ref other), o3, o4, o5, o6, o7] ∧ Pot H' p (n + 80 + 200 * i) ∧ But p H2 H') ⟨none, none, none, none, none, rfl, pot2, But.refl _ _⟩ ?_ ?_⟩
  rotate_left
  · rintro σ H3 ⟨o3, o4, o5, o6, o7, rfl, pot3, bt⟩
    exact kk H3 (pot3.more (by omega)) (but.trans bt)
  rintro i σ H3 hi ⟨o3, o4, o5, o6, o7, rfl, pot3, bt⟩
  have t1 := t1.but pot2 bt
  have t2 := t2.but pot2 bt
  refine ⟨_, rfl, _, rfl, _, rfl, p, one, other, hs, ks, rs, qs, n + 80 + 200 * i, rfl, t1, t2, by omega, pot3, fun t v u H4 ht ov ou pot4 but4 => ?_⟩
  have t1 := t1.but pot3 but4
  have t2 := t2.but pot3 but4
  obtain ⟨d, qv, zd⟩ := ov
  obtain ⟨c, qu, zc⟩ := ou
  have qv : Dq K H4 v d := qv.same wo_same
  have qu : Dq K H4 u c := qu.same wo_same
  obtain ⟨xs, its⟩ := its_of qu
  have fl : Fine (.tuple [d, c]) := fine_pair zd zc (by decide) (by decide) (by decide) (by decide)
  have bt := bt.trans but4
  clear but4
  refine ⟨t, _, rfl, SqT.of ht, rfl, _, _, rfl, _, _, rfl, rfl, ?_⟩
  have few := zd.few1 (show 400 ≤ 1000 by decide)
  refine ⟨_, rfl, _, rfl, by show 2 ≤ sizeLine; decide, fun e ne => ⟨.ref e, .tuple [d, c], rfl, .tup (SqT.of upd_same) (.cons (qv.same (Same.one ne)) (.cons (qu.same (Same.one ne)) .nil)), fl, _, rfl, _, rfl, _, rfl, one, other, u, c, xs, hs, ks, rs, qs, rfl, t1.same (Same.one ne), t2.same (Same.one ne), its.same (Same.one ne), fun L H5 s5 hL => ⟨_, _, rfl, ?_⟩⟩⟩
  have s5 := (Same.one (o := .tup [v, u]) ne).trans s5
  refine ⟨MidF p one other v u (PyData.tuple [d, c]).shown H4, ?_, ?_⟩
  · have done : ∀ {Hc : Hp}, Same H4 Hc → MidF p one other v u (PyData.tuple [d, c]).shown H4 [some (.ref p), some (.ref one), some (.ref other), some (.int (0 + (i : Int))), some v, some u, some (.str (PyData.tuple [d, c]).shown), some (.ref L)] Hc := fun s => ⟨_, _, rfl, s⟩
    refine ⟨_, rfl, _, rfl, _, rfl, one, other, v, d, hs, ks, rs, qs, rfl, t1.same s5, t2.same s5, qv.same s5, few, fun H6 s6 => ⟨_, rfl, ?_⟩⟩
    have hL := s6 _ _ hL
    have s6 := s5.trans s6
    cases hld : laidD hs.length ks.length rs.length qs.length d with
    | false =>
      have ft : Fine (.tuple [.str "laid", d]) := fine_pair sz_tags.1 zd (by decide) (by decide) (by decide) (by decide)
      refine iteT ⟨_, rfl, _, rfl, _, rfl, _, rfl, one, other, v, u, d, c, xs, hs, ks, rs, qs, "laid", v, rfl, t1.same s6, t2.same s6, qv.same s6, few, its.same s6, .inl ⟨hld, rfl, rfl⟩, fun x1 H7 s7 hx1 => ⟨.ref x1, .tuple [.str "laid", d], rfl, .tup (SqT.of hx1) (.cons (.str _) (.cons (qv.same (s6.trans s7)) .nil)), ft, _, rfl, by show 2 ≤ sizeLine; decide, fun x2 nx2 => ?_⟩⟩
      have s8 := (s6.trans s7).trans (Same.one (o := .tup [.str "laid", v]) nx2)
      exact ⟨.ref x2, .tuple [.str "laid", d], rfl, .tup (SqT.of upd_same) (.cons (.str _) (.cons (qv.same s8) .nil)), ft, rfl, _, rfl, iteNS rfl (done s8)⟩
    | true =>
      refine iteF ⟨_, rfl, by show 0 ≤ sizeLine; decide, fun e0 ne0 => ⟨L, e0, _, rfl, rfl, SqL.of (Same.one ne0 _ _ hL), SqL.of upd_same, _, rfl, ?_⟩⟩
      have hL := Same.one (o := .lst []) ne0 _ _ hL
      have s6 := s6.trans (Same.one (o := .lst []) ne0)
      generalize upd H6 e0 (.lst []) = H6' at hL s6 ⊢
      cases hb : badConds hs.length ks.length rs.length qs.length u c xs with
      | none =>
        refine iteF ⟨_, rfl, _, rfl, _, rfl, _, rfl, one, other, v, u, d, c, xs, hs, ks, rs, qs, rfl, t1.same s6, t2.same s6, qv.same s6, few, its.same s6, (fun z => by rw [hld] at z; cases z), (fun _ z hz => by rw [hb] at hz; cases hz), fun _ _ H8 s8 => ?_⟩
        exact ⟨_, _, _, _, _, rfl, .ty _, .base (.bl _), kit_ty kit_bb, _, rfl, iteF (done (s6.trans s8))⟩
      | some x =>
        obtain ⟨dx, qx, zx⟩ := bad_dq its zc hb
        have ft : Fine (.tuple [.str "claim", dx]) := fine_pair sz_tags.2 zx (by decide) (by decide) (by decide) (by decide)
        rw [hb] at hL
        refine iteT ⟨_, rfl, _, rfl, _, rfl, _, rfl, one, other, v, u, d, c, xs, hs, ks, rs, qs, "claim", x, rfl, t1.same s6, t2.same s6, qv.same s6, few, its.same s6, .inr ⟨hld, hb, rfl⟩, fun x1 H7 s7 hx1 => ⟨.ref x1, .tuple [.str "claim", dx], rfl, .tup (SqT.of hx1) (.cons (.str _) (.cons (qx.same (s6.trans s7)) .nil)), ft, _, rfl, L, _, 0, _, rfl, rfl, SqL.of (s7 _ _ hL), atI_nat (j := 0) rfl, by show 2 ≤ sizeLine; decide, fun x2 nx2 => ?_⟩⟩
        have s8 := (s6.trans s7).trans (Same.one (o := .tup [.str "claim", x]) nx2)
        exact ⟨.ref x2, .tuple [.str "claim", dx], rfl, .tup (SqT.of upd_same) (.cons (.str _) (.cons (qx.same s8) .nil)), ft, rfl, _, rfl, iteNS rfl (done s8)⟩
  clear s5 hL
  rintro σ H9 ⟨o3', o7', rfl, s9⟩
  refine ⟨_, rfl, _, rfl, by show 2 ≤ sizeLine; decide, fun e' ne' => ?_⟩
  have s9 := s9.trans (Same.one (o := .tup [v, u]) ne')
  exact ⟨.ref e', .tuple [d, c], rfl, .tup (SqT.of upd_same) (.cons (qv.same s9) (.cons (qu.same s9) .nil)), fl, _, rfl, rfl, _, rfl, iteNS rfl ⟨_, _, _, _, _, rfl, (pot4.same s9).more (by omega), bt.same s9⟩⟩
end
end K09

set_option Elab.async false
set_option linter.all false
set_option maxRecDepth 100000
set_option maxHeartbeats 8000000
namespace K09
open PySem L2 Xby
def spLaw (K : PySem.W.Frag) : Sp := fun vs H Q _ => ∃ (a : Addr) (ns : List Int), vs = [.ref a] ∧ SqL K H a (ns.map V.int) ∧ ns.length ≤ 63 ∧ ∀ H', Q (.bl true) H'
section
variable {P : Program} {w : World} {K : PySem.W.Frag} {mg : Str → Option Value} {base : Heap}
abbrev s_law : Stmt := top 58
theorem sc_law : FnScope ["_law_script", "_law_k", "_law_pot_here", "_law_turn"] ["_law_script"] (defScope s_law) := ⟨rfl, rfl, rfl, by decide +kernel, rfl, by decide +kernel, by decide +kernel⟩
theorem ok_law {f fP fR : Addr} {fd fdP fdR : FuncData} (F : Fun K "law" "law" s_law f fd) (T : TxtA K mg)
    (c_law_pot : ∀ base, Ca P w K mg base CX0 "_law_pot" 1 ["_law_script", "_law_k"] (spPot K) fP fdP) (c_law_right : ∀ base, CaG P w K mg base "_law_right" 10 ["_law_pot_here"] (spRight K) fR fdR) : FnG P w K mg base CX0 11 f fd ["_law_script"] (spLaw K) := by
  have c_law_pot := c_law_pot base
  have c_law_right := c_law_right base
  refine okG F sc_law (fun vs H Q E h => ?_) (fun cdv A outer s H vs Q E hg hr h => ⟨_, (pss_cons (ps_for PassesOwn.never rfl (pi_range1 (by rfl) T.b_range (pa_cons (pe_callB (call_max2 rfl) (by rfl) T.b_max (by decide +kernel) (pa_cons pe_int (pa_cons (pe_callB (call_min2 rfl) (by rfl) T.b_min (by decide +kernel) (pa_cons pe_int (pa_cons (pe_callB (call_lenK K rfl) (by rfl) T.b_len (by decide +kernel) (pa_cons (pv 0) pa_nil)) pa_nil))) pa_nil))) pa_nil)) (pg_name (i := 1) sc_law.nd rfl (Or.inl rfl)) (pss_cons (ps_set (i := 2) sc_law.nd rfl (Or.inr rfl) (pe_call c_law_pot.G (hr.mono (by first | decide | omega)) (by rfl) c_law_pot.g c_law_pot.k c_law_pot.B .nil pass0 (pa_cons (pv 0) (pa_cons (pv 1) pa_nil))))
    (pss_one (ps_if (pt_not (pt_val (pe_callB (cr_allK K rfl rfl) (by rfl) T.b_all (by decide +kernel) (pa_cons (pe_lc (own := [("_law_turn", 3)]) (g := gName 3) (tt := tYes) rfl sc_law.nd (pi_range1 (by rfl) T.b_range (pa_cons pe_int pa_nil)) (blkOk_by (N := ["_law_script", "_law_k", "_law_pot_here", "_law_turn"]) (sc := defScope s_law) (by decide +kernel)) (fun _ _ _ _ _ => (pg_name (i := 3) sc_law.nd rfl (Or.inl rfl))) (fun _ _ _ _ _ => pts_nil) (fun _ _ _ _ _ => (pe_callG c_law_right.G hg (hr.mono (by decide)) (by rfl) c_law_right.g c_law_right.k c_law_right.B (pa_cons (pv 2) pa_nil)))) pa_nil)))) (pss_one (ps_ret pe_bl)) pss_nil))))
    (pss_one (ps_ret pe_bl))), ?_⟩)
  · obtain ⟨_, _, rfl, _⟩ := h
    rfl
  obtain ⟨a, ns, rfl, hS, few, k⟩ := h
  have nb : 0 ≤ (if (if ((ns.map V.int).length : Int) < 3 then ((ns.map V.int).length : Int) else 3) > 1 then (if ((ns.map V.int).length : Int) < 3 then ((ns.map V.int).length : Int) else 3) else 1) ∧
      (if (if ((ns.map V.int).length : Int) < 3 then ((ns.map V.int).length : Int) else 3) > 1 then (if ((ns.map V.int).length : Int) < 3 then ((ns.map V.int).length : Int) else 3) else 1) ≤ 3 := by
    split <;> split <;> omega
  refine ⟨_, rfl, _, _, rfl, .inl ⟨_, hS, rfl⟩, _, _, rfl, _, _, rfl, _, rfl, Int.le_trans (by decide) nb.1, Int.lt_of_le_of_lt nb.2 (by decide), ?_⟩
  revert nb
  generalize (if (if ((ns.map V.int).length : Int) < 3 then ((ns.map V.int).length : Int) else 3) > 1 then (if ((ns.map V.int).length : Int) < 3 then ((ns.map V.int).length : Int) else 3) else 1) = N
  intro nb
  refine for_range (lo := 0) (n := N.toNat) (fun i σ H' => ∃ o1 o2 o3 : Option V, σ = [some (.ref a), o1, o2, o3] ∧ Same H H') ⟨none, none, none, rfl, Same.refl H⟩ ?_ ?_
  · rintro i σ H1 hi ⟨o1, o2, o3, rfl, s1⟩
    refine ⟨_, rfl, _, rfl, a, ns, 0 + (i : Int), rfl, s1.seq hS, few, ⟨by omega, by omega⟩, fun p H2 np s2 pot => ?_⟩
    refine ⟨3, rfl, by decide, by decide, fun D nD => lc_range (lo := 0) (n := 3) (fun j H' => H' D = some (.lst ((List.replicate j true).map V.bl)) ∧ Pot H' p (3000 * j) ∧ But p H2 H') ?_ ?_ ?_⟩
    · exact ⟨upd_same, pot.new nD, But.of (Same.one nD)⟩
    · rintro j H' hj ⟨hD, pot', but'⟩
      have dp : D ≠ p := (pot.ne nD).symm
      refine ⟨rfl, _, rfl, p, 3000 * j, rfl, by omega, pot', fun H3 pot3 but3 => ⟨_, but3 D _ dp hD, ?_, ?_, (pot3.more (by omega)).upd dp.symm, ((but'.trans but3).updN nD)⟩⟩
      · rw [List.length_map, List.length_replicate]
        exact Nat.lt_trans hj (by decide)
      · rw [upd_same, List.replicate_succ', List.map_append]
        rfl
    rintro H3 ⟨hD, pot3, but3⟩
    refine ⟨D, List.replicate 3 true, rfl, SqL.of hD, _, rfl, ?_⟩
    have np0 : H p = none := s1.free np
    exact ⟨_, _, _, rfl, fun b o e => but3 b o (ne_of_none e np0) (s2 b o (s1 b o e))⟩
  · rintro σ H1 ⟨o1, o2, o3, rfl, s1⟩
    exact k _
end
end K09

set_option Elab.async false
set_option linter.all false
set_option maxRecDepth 100000
set_option maxHeartbeats 8000000
namespace K09
open PySem L2 Xby
open PySem (excClassObj)
theorem all_mk {l : PySem.W.OpenLaw} {w : World} {K : PySem.W.Frag} {h : Heap} {mg : Str → Option Value} {fa : Addr} {C CH : Addr} {t1 t2 t3 t4 : Tok} {KN : Addr} {t5 u1 u2 : Tok} {odKN : Option Addr} {nKN : Nat} {slKN : Array (Option Value)}
    {fis_integer : Addr} {ocis_integer dcis_integer pmis_integer cdis_integer ctis_integer : Value} {odis_integer anis_integer : Option Addr} {slis_integer : Array (Option Value)} {kVis_integer : Value}
    {fis_integer_within : Addr} {ocis_integer_within dcis_integer_within pmis_integer_within cdis_integer_within ctis_integer_within : Value} {odis_integer_within anis_integer_within : Option Addr} {slis_integer_within : Array (Option Value)} {kVis_integer_within : Value}
    {fis_word : Addr} {ocis_word dcis_word pmis_word cdis_word ctis_word : Value} {odis_word anis_word : Option Addr} {slis_word : Array (Option Value)} {kVis_word : Value}
    {fis_cell : Addr} {ocis_cell dcis_cell pmis_cell cdis_cell ctis_cell : Value} {odis_cell anis_cell : Option Addr} {slis_cell : Array (Option Value)} {kVis_cell : Value}
    {fare_columns : Addr} {ocare_columns dcare_columns pmare_columns cdare_columns ctare_columns : Value} {odare_columns anare_columns : Option Addr} {slare_columns : Array (Option Value)} {kVare_columns : Value}
    {fis_row : Addr} {ocis_row dcis_row pmis_row cdis_row ctis_row : Value} {odis_row anis_row : Option Addr} {slis_row : Array (Option Value)} {kVis_row : Value}
    {flaw_draw : Addr} {oclaw_draw dclaw_draw pmlaw_draw cdlaw_draw ctlaw_draw : Value} {odlaw_draw anlaw_draw : Option Addr} {sllaw_draw : Array (Option Value)} {kVlaw_draw : Value}
    {flaw_any : Addr} {oclaw_any dclaw_any pmlaw_any cdlaw_any ctlaw_any : Value} {odlaw_any anlaw_any : Option Addr} {sllaw_any : Array (Option Value)} {kVlaw_any : Value}
    {flaw_pot : Addr} {oclaw_pot dclaw_pot pmlaw_pot cdlaw_pot ctlaw_pot : Value} {odlaw_pot anlaw_pot : Option Addr} {sllaw_pot : Array (Option Value)} {kVlaw_pot : Value}
    {flaw_words : Addr} {oclaw_words dclaw_words pmlaw_words cdlaw_words ctlaw_words : Value} {odlaw_words anlaw_words : Option Addr} {sllaw_words : Array (Option Value)} {kVlaw_words : Value}
    {flaw_cell : Addr} {oclaw_cell dclaw_cell pmlaw_cell cdlaw_cell ctlaw_cell : Value} {odlaw_cell anlaw_cell : Option Addr} {sllaw_cell : Array (Option Value)} {kVlaw_cell : Value}
    {flaw_rows : Addr} {oclaw_rows dclaw_rows pmlaw_rows cdlaw_rows ctlaw_rows : Value} {odlaw_rows anlaw_rows : Option Addr} {sllaw_rows : Array (Option Value)} {kVlaw_rows : Value}
    {flaw_table : Addr} {oclaw_table dclaw_table pmlaw_table cdlaw_table ctlaw_table : Value} {odlaw_table anlaw_table : Option Addr} {sllaw_table : Array (Option Value)} {kVlaw_table : Value}
    {fis_place : Addr} {ocis_place dcis_place pmis_place cdis_place ctis_place : Value} {odis_place anis_place : Option Addr} {slis_place : Array (Option Value)} {kVis_place : Value}
    {fis_pair : Addr} {ocis_pair dcis_pair pmis_pair cdis_pair ctis_pair : Value} {odis_pair anis_pair : Option Addr} {slis_pair : Array (Option Value)} {kVis_pair : Value}
    {fare_pairs : Addr} {ocare_pairs dcare_pairs pmare_pairs cdare_pairs ctare_pairs : Value} {odare_pairs anare_pairs : Option Addr} {slare_pairs : Array (Option Value)} {kVare_pairs : Value}
    {fis_alignment : Addr} {ocis_alignment dcis_alignment pmis_alignment cdis_alignment ctis_alignment : Value} {odis_alignment anis_alignment : Option Addr} {slis_alignment : Array (Option Value)} {kVis_alignment : Value}
    {flaw_is_int : Addr} {oclaw_is_int dclaw_is_int pmlaw_is_int cdlaw_is_int ctlaw_is_int : Value} {odlaw_is_int anlaw_is_int : Option Addr} {sllaw_is_int : Array (Option Value)} {kVlaw_is_int : Value}
    {flaw_odd : Addr} {oclaw_odd dclaw_odd pmlaw_odd cdlaw_odd ctlaw_odd : Value} {odlaw_odd anlaw_odd : Option Addr} {sllaw_odd : Array (Option Value)} {kVlaw_odd : Value}
    {flaw_bent : Addr} {oclaw_bent dclaw_bent pmlaw_bent cdlaw_bent ctlaw_bent : Value} {odlaw_bent anlaw_bent : Option Addr} {sllaw_bent : Array (Option Value)} {kVlaw_bent : Value}
    {flaw_drawn_pairs : Addr} {oclaw_drawn_pairs dclaw_drawn_pairs pmlaw_drawn_pairs cdlaw_drawn_pairs ctlaw_drawn_pairs : Value} {odlaw_drawn_pairs anlaw_drawn_pairs : Option Addr} {sllaw_drawn_pairs : Array (Option Value)} {kVlaw_drawn_pairs : Value}
    {flaw_laid : Addr} {oclaw_laid dclaw_laid pmlaw_laid cdlaw_laid ctlaw_laid : Value} {odlaw_laid anlaw_laid : Option Addr} {sllaw_laid : Array (Option Value)} {kVlaw_laid : Value}
    {flaw_are_pairs : Addr} {oclaw_are_pairs dclaw_are_pairs pmlaw_are_pairs cdlaw_are_pairs ctlaw_are_pairs : Value} {odlaw_are_pairs anlaw_are_pairs : Option Addr} {sllaw_are_pairs : Array (Option Value)} {kVlaw_are_pairs : Value}
    {flaw_is_laid : Addr} {oclaw_is_laid dclaw_is_laid pmlaw_is_laid cdlaw_is_laid ctlaw_is_laid : Value} {odlaw_is_laid anlaw_is_laid : Option Addr} {sllaw_is_laid : Array (Option Value)} {kVlaw_is_laid : Value}
    {fhow_many_places : Addr} {ochow_many_places dchow_many_places pmhow_many_places cdhow_many_places cthow_many_places : Value} {odhow_many_places anhow_many_places : Option Addr} {slhow_many_places : Array (Option Value)} {kVhow_many_places : Value}
    {fcheck_alignment : Addr} {occheck_alignment dccheck_alignment pmcheck_alignment cdcheck_alignment ctcheck_alignment : Value} {odcheck_alignment ancheck_alignment : Option Addr} {slcheck_alignment : Array (Option Value)} {kVcheck_alignment : Value}
    {fis_place_or_none : Addr} {ocis_place_or_none dcis_place_or_none pmis_place_or_none cdis_place_or_none ctis_place_or_none : Value} {odis_place_or_none anis_place_or_none : Option Addr} {slis_place_or_none : Array (Option Value)} {kVis_place_or_none : Value}
    {fis_condition : Addr} {ocis_condition dcis_condition pmis_condition cdis_condition ctis_condition : Value} {odis_condition anis_condition : Option Addr} {slis_condition : Array (Option Value)} {kVis_condition : Value}
    {fcheck_conditions : Addr} {occheck_conditions dccheck_conditions pmcheck_conditions cdcheck_conditions ctcheck_conditions : Value} {odcheck_conditions ancheck_conditions : Option Addr} {slcheck_conditions : Array (Option Value)} {kVcheck_conditions : Value}
    {fis_true_of_pairs : Addr} {ocis_true_of_pairs dcis_true_of_pairs pmis_true_of_pairs cdis_true_of_pairs ctis_true_of_pairs : Value} {odis_true_of_pairs anis_true_of_pairs : Option Addr} {slis_true_of_pairs : Array (Option Value)} {kVis_true_of_pairs : Value}
    {fpairs_keep : Addr} {ocpairs_keep dcpairs_keep pmpairs_keep cdpairs_keep ctpairs_keep : Value} {odpairs_keep anpairs_keep : Option Addr} {slpairs_keep : Array (Option Value)} {kVpairs_keep : Value}
    {fkeeps_conditions : Addr} {ockeeps_conditions dckeeps_conditions pmkeeps_conditions cdkeeps_conditions ctkeeps_conditions : Value} {odkeeps_conditions ankeeps_conditions : Option Addr} {slkeeps_conditions : Array (Option Value)} {kVkeeps_conditions : Value}
    {fkeeps : Addr} {ockeeps dckeeps pmkeeps cdkeeps ctkeeps : Value} {odkeeps ankeeps : Option Addr} {slkeeps : Array (Option Value)} {kVkeeps : Value}
    {flaw_claim : Addr} {oclaw_claim dclaw_claim pmlaw_claim cdlaw_claim ctlaw_claim : Value} {odlaw_claim anlaw_claim : Option Addr} {sllaw_claim : Array (Option Value)} {kVlaw_claim : Value}
    {flaw_is_claim : Addr} {oclaw_is_claim dclaw_is_claim pmlaw_is_claim cdlaw_is_claim ctlaw_is_claim : Value} {odlaw_is_claim anlaw_is_claim : Option Addr} {sllaw_is_claim : Array (Option Value)} {kVlaw_is_claim : Value}
    {flaw_bad : Addr} {oclaw_bad dclaw_bad pmlaw_bad cdlaw_bad ctlaw_bad : Value} {odlaw_bad anlaw_bad : Option Addr} {sllaw_bad : Array (Option Value)} {kVlaw_bad : Value}
    {flaw_heard : Addr} {oclaw_heard dclaw_heard pmlaw_heard cdlaw_heard ctlaw_heard : Value} {odlaw_heard anlaw_heard : Option Addr} {sllaw_heard : Array (Option Value)} {kVlaw_heard : Value}
    {flaw_case : Addr} {oclaw_case dclaw_case pmlaw_case cdlaw_case ctlaw_case : Value} {odlaw_case anlaw_case : Option Addr} {sllaw_case : Array (Option Value)} {kVlaw_case : Value}
    {flaw_right : Addr} {oclaw_right dclaw_right pmlaw_right cdlaw_right ctlaw_right : Value} {odlaw_right anlaw_right : Option Addr} {sllaw_right : Array (Option Value)} {kVlaw_right : Value}
    {fTable___init__ : Addr} {ocTable___init__ dcTable___init__ pmTable___init__ cdTable___init__ ctTable___init__ : Value} {odTable___init__ anTable___init__ : Option Addr} {slTable___init__ : Array (Option Value)} {kVTable___init__ : Value}
    {flaw : Addr} {oclaw dclaw pmlaw cdlaw ctlaw : Value} {odlaw anlaw : Option Addr} {sllaw : Array (Option Value)} {kVlaw : Value}
    
    {EK iK NK : Addr} {nmeK qqeK : Str} {bseK : List Value} {sneK : List Str} {subeK : List Value} {abeK : Bool} {coleK : Option Bool} {ddeK : Option Addr} {m0eK m1eK m2eK m3eK m5eK : Option Value} {oceK dceK pmeK cdeK cteK : Value} {odeK aneK : Option Addr} {sleK : Array (Option Value)} {p1eK p2eK p3eK p4eK p5eK p6eK : Pos}
    {ER iR NR : Addr} {nmeR qqeR : Str} {bseR : List Value} {sneR : List Str} {subeR : List Value} {abeR : Bool} {coleR : Option Bool} {ddeR : Option Addr} {m0eR m1eR m2eR m3eR m5eR : Option Value} {oceR dceR pmeR cdeR cteR : Value} {odeR aneR : Option Addr} {sleR : Array (Option Value)} {p1eR p2eR p3eR p4eR p5eR p6eR : Pos}
    {EW iW NW : Addr} {nmeW qqeW : Str} {bseW : List Value} {sneW : List Str} {subeW : List Value} {abeW : Bool} {coleW : Option Bool} {ddeW : Option Addr} {m0eW m1eW m2eW m3eW m5eW : Option Value} {oceW dceW pmeW cdeW cteW : Value} {odeW aneW : Option Addr} {sleW : Array (Option Value)} {p1eW p2eW p3eW p4eW p5eW p6eW : Pos}
    {EM iM NM : Addr} {nmeM qqeM : Str} {bseM : List Value} {sneM : List Str} {subeM : List Value} {abeM : Bool} {coleM : Option Bool} {ddeM : Option Addr} {m0eM m1eM m2eM m3eM m5eM : Option Value} {oceM dceM pmeM cdeM cteM : Value} {odeM aneM : Option Addr} {sleM : Array (Option Value)} {p1eM p2eM p3eM p4eM p5eM p6eM : Pos}
    {EA iA NA : Addr} {nmeA qqeA : Str} {bseA : List Value} {sneA : List Str} {subeA : List Value} {abeA : Bool} {coleA : Option Bool} {ddeA : Option Addr} {m0eA m1eA m2eA m3eA m5eA : Option Value} {oceA dceA pmeA cdeA cteA : Value} {odeA aneA : Option Addr} {sleA : Array (Option Value)} {p1eA p2eA p3eA p4eA p5eA p6eA : Pos}
    {EB iB NB : Addr} {nmeB qqeB : Str} {bseB : List Value} {sneB : List Str} {subeB : List Value} {abeB : Bool} {coleB : Option Bool} {ddeB : Option Addr} {m0eB m1eB m2eB m3eB m5eB : Option Value} {oceB dceB pmeB cdeB cteB : Value} {odeB aneB : Option Addr} {sleB : Array (Option Value)} {p1eB p2eB p3eB p4eB p5eB p6eB : Pos}
    (X : K.In h) (G : h.Ns mainGlobals mg) (hfa : mg "law" = some (.ref fa))
    (aC : PySem.W.nsIn K mainGlobals "Table" = some (some (.ref C)))
    (ais_integer : PySem.W.nsIn K mainGlobals "is_integer" = some (some (.ref fis_integer)))
    (lis_integer : K.lookup fis_integer = some ⟨ocis_integer, odis_integer, .func (PySem.W.fnOf "is_integer" "is_integer" (defArgs s_is_integer) (defBody s_is_integer) (defScope s_is_integer) .none kVis_integer dcis_integer pmis_integer anis_integer cdis_integer ctis_integer), slis_integer⟩)
    (cis_integer : PySem.W.codeIn K cdis_integer "is_integer" = true)
    (kis_integer : PySem.W.keepIn K (.ref fis_integer) = true)
    (ais_integer_within : PySem.W.nsIn K mainGlobals "is_integer_within" = some (some (.ref fis_integer_within)))
    (lis_integer_within : K.lookup fis_integer_within = some ⟨ocis_integer_within, odis_integer_within, .func (PySem.W.fnOf "is_integer_within" "is_integer_within" (defArgs s_is_integer_within) (defBody s_is_integer_within) (defScope s_is_integer_within) .none kVis_integer_within dcis_integer_within pmis_integer_within anis_integer_within cdis_integer_within ctis_integer_within), slis_integer_within⟩)
    (cis_integer_within : PySem.W.codeIn K cdis_integer_within "is_integer_within" = true)
    (kis_integer_within : PySem.W.keepIn K (.ref fis_integer_within) = true)
    (ais_word : PySem.W.nsIn K mainGlobals "is_word" = some (some (.ref fis_word)))
    (lis_word : K.lookup fis_word = some ⟨ocis_word, odis_word, .func (PySem.W.fnOf "is_word" "is_word" (defArgs s_is_word) (defBody s_is_word) (defScope s_is_word) .none kVis_word dcis_word pmis_word anis_word cdis_word ctis_word), slis_word⟩)
    (cis_word : PySem.W.codeIn K cdis_word "is_word" = true)
    (kis_word : PySem.W.keepIn K (.ref fis_word) = true)
    (ais_cell : PySem.W.nsIn K mainGlobals "is_cell" = some (some (.ref fis_cell)))
    (lis_cell : K.lookup fis_cell = some ⟨ocis_cell, odis_cell, .func (PySem.W.fnOf "is_cell" "is_cell" (defArgs s_is_cell) (defBody s_is_cell) (defScope s_is_cell) .none kVis_cell dcis_cell pmis_cell anis_cell cdis_cell ctis_cell), slis_cell⟩)
    (cis_cell : PySem.W.codeIn K cdis_cell "is_cell" = true)
    (kis_cell : PySem.W.keepIn K (.ref fis_cell) = true)
    (aare_columns : PySem.W.nsIn K mainGlobals "are_columns" = some (some (.ref fare_columns)))
    (lare_columns : K.lookup fare_columns = some ⟨ocare_columns, odare_columns, .func (PySem.W.fnOf "are_columns" "are_columns" (defArgs s_are_columns) (defBody s_are_columns) (defScope s_are_columns) .none kVare_columns dcare_columns pmare_columns anare_columns cdare_columns ctare_columns), slare_columns⟩)
    (care_columns : PySem.W.codeIn K cdare_columns "are_columns" = true)
    (kare_columns : PySem.W.keepIn K (.ref fare_columns) = true)
    (ais_row : PySem.W.nsIn K mainGlobals "is_row" = some (some (.ref fis_row)))
    (lis_row : K.lookup fis_row = some ⟨ocis_row, odis_row, .func (PySem.W.fnOf "is_row" "is_row" (defArgs s_is_row) (defBody s_is_row) (defScope s_is_row) .none kVis_row dcis_row pmis_row anis_row cdis_row ctis_row), slis_row⟩)
    (cis_row : PySem.W.codeIn K cdis_row "is_row" = true)
    (kis_row : PySem.W.keepIn K (.ref fis_row) = true)
    (alaw_draw : PySem.W.nsIn K mainGlobals "_law_draw" = some (some (.ref flaw_draw)))
    (llaw_draw : K.lookup flaw_draw = some ⟨oclaw_draw, odlaw_draw, .func (PySem.W.fnOf "_law_draw" "_law_draw" (defArgs s_law_draw) (defBody s_law_draw) (defScope s_law_draw) .none kVlaw_draw dclaw_draw pmlaw_draw anlaw_draw cdlaw_draw ctlaw_draw), sllaw_draw⟩)
    (claw_draw : PySem.W.codeIn K cdlaw_draw "_law_draw" = true)
    (klaw_draw : PySem.W.keepIn K (.ref flaw_draw) = true)
    (alaw_any : PySem.W.nsIn K mainGlobals "_law_any" = some (some (.ref flaw_any)))
    (llaw_any : K.lookup flaw_any = some ⟨oclaw_any, odlaw_any, .func (PySem.W.fnOf "_law_any" "_law_any" (defArgs s_law_any) (defBody s_law_any) (defScope s_law_any) .none kVlaw_any dclaw_any pmlaw_any anlaw_any cdlaw_any ctlaw_any), sllaw_any⟩)
    (claw_any : PySem.W.codeIn K cdlaw_any "_law_any" = true)
    (klaw_any : PySem.W.keepIn K (.ref flaw_any) = true)
    (alaw_pot : PySem.W.nsIn K mainGlobals "_law_pot" = some (some (.ref flaw_pot)))
    (llaw_pot : K.lookup flaw_pot = some ⟨oclaw_pot, odlaw_pot, .func (PySem.W.fnOf "_law_pot" "_law_pot" (defArgs s_law_pot) (defBody s_law_pot) (defScope s_law_pot) .none kVlaw_pot dclaw_pot pmlaw_pot anlaw_pot cdlaw_pot ctlaw_pot), sllaw_pot⟩)
    (claw_pot : PySem.W.codeIn K cdlaw_pot "_law_pot" = true)
    (klaw_pot : PySem.W.keepIn K (.ref flaw_pot) = true)
    (alaw_words : PySem.W.nsIn K mainGlobals "_law_words" = some (some (.ref flaw_words)))
    (llaw_words : K.lookup flaw_words = some ⟨oclaw_words, odlaw_words, .func (PySem.W.fnOf "_law_words" "_law_words" (defArgs s_law_words) (defBody s_law_words) (defScope s_law_words) .none kVlaw_words dclaw_words pmlaw_words anlaw_words cdlaw_words ctlaw_words), sllaw_words⟩)
    (claw_words : PySem.W.codeIn K cdlaw_words "_law_words" = true)
    (klaw_words : PySem.W.keepIn K (.ref flaw_words) = true)
    (alaw_cell : PySem.W.nsIn K mainGlobals "_law_cell" = some (some (.ref flaw_cell)))
    (llaw_cell : K.lookup flaw_cell = some ⟨oclaw_cell, odlaw_cell, .func (PySem.W.fnOf "_law_cell" "_law_cell" (defArgs s_law_cell) (defBody s_law_cell) (defScope s_law_cell) .none kVlaw_cell dclaw_cell pmlaw_cell anlaw_cell cdlaw_cell ctlaw_cell), sllaw_cell⟩)
    (claw_cell : PySem.W.codeIn K cdlaw_cell "_law_cell" = true)
    (klaw_cell : PySem.W.keepIn K (.ref flaw_cell) = true)
    (alaw_rows : PySem.W.nsIn K mainGlobals "_law_rows" = some (some (.ref flaw_rows)))
    (llaw_rows : K.lookup flaw_rows = some ⟨oclaw_rows, odlaw_rows, .func (PySem.W.fnOf "_law_rows" "_law_rows" (defArgs s_law_rows) (defBody s_law_rows) (defScope s_law_rows) .none kVlaw_rows dclaw_rows pmlaw_rows anlaw_rows cdlaw_rows ctlaw_rows), sllaw_rows⟩)
    (claw_rows : PySem.W.codeIn K cdlaw_rows "_law_rows" = true)
    (klaw_rows : PySem.W.keepIn K (.ref flaw_rows) = true)
    (alaw_table : PySem.W.nsIn K mainGlobals "_law_table" = some (some (.ref flaw_table)))
    (llaw_table : K.lookup flaw_table = some ⟨oclaw_table, odlaw_table, .func (PySem.W.fnOf "_law_table" "_law_table" (defArgs s_law_table) (defBody s_law_table) (defScope s_law_table) .none kVlaw_table dclaw_table pmlaw_table anlaw_table cdlaw_table ctlaw_table), sllaw_table⟩)
    (claw_table : PySem.W.codeIn K cdlaw_table "_law_table" = true)
    (klaw_table : PySem.W.keepIn K (.ref flaw_table) = true)
    (ais_place : PySem.W.nsIn K mainGlobals "is_place" = some (some (.ref fis_place)))
    (lis_place : K.lookup fis_place = some ⟨ocis_place, odis_place, .func (PySem.W.fnOf "is_place" "is_place" (defArgs s_is_place) (defBody s_is_place) (defScope s_is_place) .none kVis_place dcis_place pmis_place anis_place cdis_place ctis_place), slis_place⟩)
    (cis_place : PySem.W.codeIn K cdis_place "is_place" = true)
    (kis_place : PySem.W.keepIn K (.ref fis_place) = true)
    (ais_pair : PySem.W.nsIn K mainGlobals "is_pair" = some (some (.ref fis_pair)))
    (lis_pair : K.lookup fis_pair = some ⟨ocis_pair, odis_pair, .func (PySem.W.fnOf "is_pair" "is_pair" (defArgs s_is_pair) (defBody s_is_pair) (defScope s_is_pair) .none kVis_pair dcis_pair pmis_pair anis_pair cdis_pair ctis_pair), slis_pair⟩)
    (cis_pair : PySem.W.codeIn K cdis_pair "is_pair" = true)
    (kis_pair : PySem.W.keepIn K (.ref fis_pair) = true)
    (aare_pairs : PySem.W.nsIn K mainGlobals "are_pairs" = some (some (.ref fare_pairs)))
    (lare_pairs : K.lookup fare_pairs = some ⟨ocare_pairs, odare_pairs, .func (PySem.W.fnOf "are_pairs" "are_pairs" (defArgs s_are_pairs) (defBody s_are_pairs) (defScope s_are_pairs) .none kVare_pairs dcare_pairs pmare_pairs anare_pairs cdare_pairs ctare_pairs), slare_pairs⟩)
    (care_pairs : PySem.W.codeIn K cdare_pairs "are_pairs" = true)
    (kare_pairs : PySem.W.keepIn K (.ref fare_pairs) = true)
    (ais_alignment : PySem.W.nsIn K mainGlobals "is_alignment" = some (some (.ref fis_alignment)))
    (lis_alignment : K.lookup fis_alignment = some ⟨ocis_alignment, odis_alignment, .func (PySem.W.fnOf "is_alignment" "is_alignment" (defArgs s_is_alignment) (defBody s_is_alignment) (defScope s_is_alignment) .none kVis_alignment dcis_alignment pmis_alignment anis_alignment cdis_alignment ctis_alignment), slis_alignment⟩)
    (cis_alignment : PySem.W.codeIn K cdis_alignment "is_alignment" = true)
    (kis_alignment : PySem.W.keepIn K (.ref fis_alignment) = true)
    (alaw_is_int : PySem.W.nsIn K mainGlobals "_law_is_int" = some (some (.ref flaw_is_int)))
    (llaw_is_int : K.lookup flaw_is_int = some ⟨oclaw_is_int, odlaw_is_int, .func (PySem.W.fnOf "_law_is_int" "_law_is_int" (defArgs s_law_is_int) (defBody s_law_is_int) (defScope s_law_is_int) .none kVlaw_is_int dclaw_is_int pmlaw_is_int anlaw_is_int cdlaw_is_int ctlaw_is_int), sllaw_is_int⟩)
    (claw_is_int : PySem.W.codeIn K cdlaw_is_int "_law_is_int" = true)
    (klaw_is_int : PySem.W.keepIn K (.ref flaw_is_int) = true)
    (alaw_odd : PySem.W.nsIn K mainGlobals "_law_odd" = some (some (.ref flaw_odd)))
    (llaw_odd : K.lookup flaw_odd = some ⟨oclaw_odd, odlaw_odd, .func (PySem.W.fnOf "_law_odd" "_law_odd" (defArgs s_law_odd) (defBody s_law_odd) (defScope s_law_odd) .none kVlaw_odd dclaw_odd pmlaw_odd anlaw_odd cdlaw_odd ctlaw_odd), sllaw_odd⟩)
    (claw_odd : PySem.W.codeIn K cdlaw_odd "_law_odd" = true)
    (klaw_odd : PySem.W.keepIn K (.ref flaw_odd) = true)
    (alaw_bent : PySem.W.nsIn K mainGlobals "_law_bent" = some (some (.ref flaw_bent)))
    (llaw_bent : K.lookup flaw_bent = some ⟨oclaw_bent, odlaw_bent, .func (PySem.W.fnOf "_law_bent" "_law_bent" (defArgs s_law_bent) (defBody s_law_bent) (defScope s_law_bent) .none kVlaw_bent dclaw_bent pmlaw_bent anlaw_bent cdlaw_bent ctlaw_bent), sllaw_bent⟩)
    (claw_bent : PySem.W.codeIn K cdlaw_bent "_law_bent" = true)
    (klaw_bent : PySem.W.keepIn K (.ref flaw_bent) = true)
    (alaw_drawn_pairs : PySem.W.nsIn K mainGlobals "_law_drawn_pairs" = some (some (.ref flaw_drawn_pairs)))
    (llaw_drawn_pairs : K.lookup flaw_drawn_pairs = some ⟨oclaw_drawn_pairs, odlaw_drawn_pairs, .func (PySem.W.fnOf "_law_drawn_pairs" "_law_drawn_pairs" (defArgs s_law_drawn_pairs) (defBody s_law_drawn_pairs) (defScope s_law_drawn_pairs) .none kVlaw_drawn_pairs dclaw_drawn_pairs pmlaw_drawn_pairs anlaw_drawn_pairs cdlaw_drawn_pairs ctlaw_drawn_pairs), sllaw_drawn_pairs⟩)
    (claw_drawn_pairs : PySem.W.codeIn K cdlaw_drawn_pairs "_law_drawn_pairs" = true)
    (klaw_drawn_pairs : PySem.W.keepIn K (.ref flaw_drawn_pairs) = true)
    (alaw_laid : PySem.W.nsIn K mainGlobals "_law_laid" = some (some (.ref flaw_laid)))
    (llaw_laid : K.lookup flaw_laid = some ⟨oclaw_laid, odlaw_laid, .func (PySem.W.fnOf "_law_laid" "_law_laid" (defArgs s_law_laid) (defBody s_law_laid) (defScope s_law_laid) .none kVlaw_laid dclaw_laid pmlaw_laid anlaw_laid cdlaw_laid ctlaw_laid), sllaw_laid⟩)
    (claw_laid : PySem.W.codeIn K cdlaw_laid "_law_laid" = true)
    (klaw_laid : PySem.W.keepIn K (.ref flaw_laid) = true)
    (alaw_are_pairs : PySem.W.nsIn K mainGlobals "_law_are_pairs" = some (some (.ref flaw_are_pairs)))
    (llaw_are_pairs : K.lookup flaw_are_pairs = some ⟨oclaw_are_pairs, odlaw_are_pairs, .func (PySem.W.fnOf "_law_are_pairs" "_law_are_pairs" (defArgs s_law_are_pairs) (defBody s_law_are_pairs) (defScope s_law_are_pairs) .none kVlaw_are_pairs dclaw_are_pairs pmlaw_are_pairs anlaw_are_pairs cdlaw_are_pairs ctlaw_are_pairs), sllaw_are_pairs⟩)
    (claw_are_pairs : PySem.W.codeIn K cdlaw_are_pairs "_law_are_pairs" = true)
    (klaw_are_pairs : PySem.W.keepIn K (.ref flaw_are_pairs) = true)
    (alaw_is_laid : PySem.W.nsIn K mainGlobals "_law_is_laid" = some (some (.ref flaw_is_laid)))
    (llaw_is_laid : K.lookup flaw_is_laid = some ⟨oclaw_is_laid, odlaw_is_laid, .func (PySem.W.fnOf "_law_is_laid" "_law_is_laid" (defArgs s_law_is_laid) (defBody s_law_is_laid) (defScope s_law_is_laid) .none kVlaw_is_laid dclaw_is_laid pmlaw_is_laid anlaw_is_laid cdlaw_is_laid ctlaw_is_laid), sllaw_is_laid⟩)
    (claw_is_laid : PySem.W.codeIn K cdlaw_is_laid "_law_is_laid" = true)
    (klaw_is_laid : PySem.W.keepIn K (.ref flaw_is_laid) = true)
    (ahow_many_places : PySem.W.nsIn K mainGlobals "how_many_places" = some (some (.ref fhow_many_places)))
    (lhow_many_places : K.lookup fhow_many_places = some ⟨ochow_many_places, odhow_many_places, .func (PySem.W.fnOf "how_many_places" "how_many_places" (defArgs s_how_many_places) (defBody s_how_many_places) (defScope s_how_many_places) .none kVhow_many_places dchow_many_places pmhow_many_places anhow_many_places cdhow_many_places cthow_many_places), slhow_many_places⟩)
    (chow_many_places : PySem.W.codeIn K cdhow_many_places "how_many_places" = true)
    (khow_many_places : PySem.W.keepIn K (.ref fhow_many_places) = true)
    (acheck_alignment : PySem.W.nsIn K mainGlobals "check_alignment" = some (some (.ref fcheck_alignment)))
    (lcheck_alignment : K.lookup fcheck_alignment = some ⟨occheck_alignment, odcheck_alignment, .func (PySem.W.fnOf "check_alignment" "check_alignment" (defArgs s_check_alignment) (defBody s_check_alignment) (defScope s_check_alignment) .none kVcheck_alignment dccheck_alignment pmcheck_alignment ancheck_alignment cdcheck_alignment ctcheck_alignment), slcheck_alignment⟩)
    (ccheck_alignment : PySem.W.codeIn K cdcheck_alignment "check_alignment" = true)
    (kcheck_alignment : PySem.W.keepIn K (.ref fcheck_alignment) = true)
    (ais_place_or_none : PySem.W.nsIn K mainGlobals "is_place_or_none" = some (some (.ref fis_place_or_none)))
    (lis_place_or_none : K.lookup fis_place_or_none = some ⟨ocis_place_or_none, odis_place_or_none, .func (PySem.W.fnOf "is_place_or_none" "is_place_or_none" (defArgs s_is_place_or_none) (defBody s_is_place_or_none) (defScope s_is_place_or_none) .none kVis_place_or_none dcis_place_or_none pmis_place_or_none anis_place_or_none cdis_place_or_none ctis_place_or_none), slis_place_or_none⟩)
    (cis_place_or_none : PySem.W.codeIn K cdis_place_or_none "is_place_or_none" = true)
    (kis_place_or_none : PySem.W.keepIn K (.ref fis_place_or_none) = true)
    (ais_condition : PySem.W.nsIn K mainGlobals "is_condition" = some (some (.ref fis_condition)))
    (lis_condition : K.lookup fis_condition = some ⟨ocis_condition, odis_condition, .func (PySem.W.fnOf "is_condition" "is_condition" (defArgs s_is_condition) (defBody s_is_condition) (defScope s_is_condition) .none kVis_condition dcis_condition pmis_condition anis_condition cdis_condition ctis_condition), slis_condition⟩)
    (cis_condition : PySem.W.codeIn K cdis_condition "is_condition" = true)
    (kis_condition : PySem.W.keepIn K (.ref fis_condition) = true)
    (acheck_conditions : PySem.W.nsIn K mainGlobals "check_conditions" = some (some (.ref fcheck_conditions)))
    (lcheck_conditions : K.lookup fcheck_conditions = some ⟨occheck_conditions, odcheck_conditions, .func (PySem.W.fnOf "check_conditions" "check_conditions" (defArgs s_check_conditions) (defBody s_check_conditions) (defScope s_check_conditions) .none kVcheck_conditions dccheck_conditions pmcheck_conditions ancheck_conditions cdcheck_conditions ctcheck_conditions), slcheck_conditions⟩)
    (ccheck_conditions : PySem.W.codeIn K cdcheck_conditions "check_conditions" = true)
    (kcheck_conditions : PySem.W.keepIn K (.ref fcheck_conditions) = true)
    (ais_true_of_pairs : PySem.W.nsIn K mainGlobals "is_true_of_pairs" = some (some (.ref fis_true_of_pairs)))
    (lis_true_of_pairs : K.lookup fis_true_of_pairs = some ⟨ocis_true_of_pairs, odis_true_of_pairs, .func (PySem.W.fnOf "is_true_of_pairs" "is_true_of_pairs" (defArgs s_is_true_of_pairs) (defBody s_is_true_of_pairs) (defScope s_is_true_of_pairs) .none kVis_true_of_pairs dcis_true_of_pairs pmis_true_of_pairs anis_true_of_pairs cdis_true_of_pairs ctis_true_of_pairs), slis_true_of_pairs⟩)
    (cis_true_of_pairs : PySem.W.codeIn K cdis_true_of_pairs "is_true_of_pairs" = true)
    (kis_true_of_pairs : PySem.W.keepIn K (.ref fis_true_of_pairs) = true)
    (apairs_keep : PySem.W.nsIn K mainGlobals "pairs_keep" = some (some (.ref fpairs_keep)))
    (lpairs_keep : K.lookup fpairs_keep = some ⟨ocpairs_keep, odpairs_keep, .func (PySem.W.fnOf "pairs_keep" "pairs_keep" (defArgs s_pairs_keep) (defBody s_pairs_keep) (defScope s_pairs_keep) .none kVpairs_keep dcpairs_keep pmpairs_keep anpairs_keep cdpairs_keep ctpairs_keep), slpairs_keep⟩)
    (cpairs_keep : PySem.W.codeIn K cdpairs_keep "pairs_keep" = true)
    (kpairs_keep : PySem.W.keepIn K (.ref fpairs_keep) = true)
    (akeeps_conditions : PySem.W.nsIn K mainGlobals "keeps_conditions" = some (some (.ref fkeeps_conditions)))
    (lkeeps_conditions : K.lookup fkeeps_conditions = some ⟨ockeeps_conditions, odkeeps_conditions, .func (PySem.W.fnOf "keeps_conditions" "keeps_conditions" (defArgs s_keeps_conditions) (defBody s_keeps_conditions) (defScope s_keeps_conditions) .none kVkeeps_conditions dckeeps_conditions pmkeeps_conditions ankeeps_conditions cdkeeps_conditions ctkeeps_conditions), slkeeps_conditions⟩)
    (ckeeps_conditions : PySem.W.codeIn K cdkeeps_conditions "keeps_conditions" = true)
    (kkeeps_conditions : PySem.W.keepIn K (.ref fkeeps_conditions) = true)
    (akeeps : PySem.W.nsIn K mainGlobals "keeps" = some (some (.ref fkeeps)))
    (lkeeps : K.lookup fkeeps = some ⟨ockeeps, odkeeps, .func (PySem.W.fnOf "keeps" "keeps" (defArgs s_keeps) (defBody s_keeps) (defScope s_keeps) .none kVkeeps dckeeps pmkeeps ankeeps cdkeeps ctkeeps), slkeeps⟩)
    (ckeeps : PySem.W.codeIn K cdkeeps "keeps" = true)
    (kkeeps : PySem.W.keepIn K (.ref fkeeps) = true)
    (alaw_claim : PySem.W.nsIn K mainGlobals "_law_claim" = some (some (.ref flaw_claim)))
    (llaw_claim : K.lookup flaw_claim = some ⟨oclaw_claim, odlaw_claim, .func (PySem.W.fnOf "_law_claim" "_law_claim" (defArgs s_law_claim) (defBody s_law_claim) (defScope s_law_claim) .none kVlaw_claim dclaw_claim pmlaw_claim anlaw_claim cdlaw_claim ctlaw_claim), sllaw_claim⟩)
    (claw_claim : PySem.W.codeIn K cdlaw_claim "_law_claim" = true)
    (klaw_claim : PySem.W.keepIn K (.ref flaw_claim) = true)
    (alaw_is_claim : PySem.W.nsIn K mainGlobals "_law_is_claim" = some (some (.ref flaw_is_claim)))
    (llaw_is_claim : K.lookup flaw_is_claim = some ⟨oclaw_is_claim, odlaw_is_claim, .func (PySem.W.fnOf "_law_is_claim" "_law_is_claim" (defArgs s_law_is_claim) (defBody s_law_is_claim) (defScope s_law_is_claim) .none kVlaw_is_claim dclaw_is_claim pmlaw_is_claim anlaw_is_claim cdlaw_is_claim ctlaw_is_claim), sllaw_is_claim⟩)
    (claw_is_claim : PySem.W.codeIn K cdlaw_is_claim "_law_is_claim" = true)
    (klaw_is_claim : PySem.W.keepIn K (.ref flaw_is_claim) = true)
    (alaw_bad : PySem.W.nsIn K mainGlobals "_law_bad" = some (some (.ref flaw_bad)))
    (llaw_bad : K.lookup flaw_bad = some ⟨oclaw_bad, odlaw_bad, .func (PySem.W.fnOf "_law_bad" "_law_bad" (defArgs s_law_bad) (defBody s_law_bad) (defScope s_law_bad) .none kVlaw_bad dclaw_bad pmlaw_bad anlaw_bad cdlaw_bad ctlaw_bad), sllaw_bad⟩)
    (claw_bad : PySem.W.codeIn K cdlaw_bad "_law_bad" = true)
    (klaw_bad : PySem.W.keepIn K (.ref flaw_bad) = true)
    (alaw_heard : PySem.W.nsIn K mainGlobals "_law_heard" = some (some (.ref flaw_heard)))
    (llaw_heard : K.lookup flaw_heard = some ⟨oclaw_heard, odlaw_heard, .func (PySem.W.fnOf "_law_heard" "_law_heard" (defArgs s_law_heard) (defBody s_law_heard) (defScope s_law_heard) .none kVlaw_heard dclaw_heard pmlaw_heard anlaw_heard cdlaw_heard ctlaw_heard), sllaw_heard⟩)
    (claw_heard : PySem.W.codeIn K cdlaw_heard "_law_heard" = true)
    (klaw_heard : PySem.W.keepIn K (.ref flaw_heard) = true)
    (alaw_case : PySem.W.nsIn K mainGlobals "_law_case" = some (some (.ref flaw_case)))
    (llaw_case : K.lookup flaw_case = some ⟨oclaw_case, odlaw_case, .func (PySem.W.fnOf "_law_case" "_law_case" (defArgs s_law_case) (defBody s_law_case) (defScope s_law_case) .none kVlaw_case dclaw_case pmlaw_case anlaw_case cdlaw_case ctlaw_case), sllaw_case⟩)
    (claw_case : PySem.W.codeIn K cdlaw_case "_law_case" = true)
    (klaw_case : PySem.W.keepIn K (.ref flaw_case) = true)
    (alaw_right : PySem.W.nsIn K mainGlobals "_law_right" = some (some (.ref flaw_right)))
    (llaw_right : K.lookup flaw_right = some ⟨oclaw_right, odlaw_right, .func (PySem.W.fnOf "_law_right" "_law_right" (defArgs s_law_right) (defBody s_law_right) (defScope s_law_right) .none kVlaw_right dclaw_right pmlaw_right anlaw_right cdlaw_right ctlaw_right), sllaw_right⟩)
    (claw_right : PySem.W.codeIn K cdlaw_right "_law_right" = true)
    (klaw_right : PySem.W.keepIn K (.ref flaw_right) = true)
    (aTable___init__ : PySem.W.findIn K (.ref C) "__init__" = some (some (.ref fTable___init__)))
    (iTable___init__ : PySem.W.isFn K (.ref fTable___init__) = true)
    (lTable___init__ : K.lookup fTable___init__ = some ⟨ocTable___init__, odTable___init__, .func (PySem.W.fnOf "__init__" "Table.__init__" (defArgs s_Table___init__) (defBody s_Table___init__) (defScope s_Table___init__) .none kVTable___init__ dcTable___init__ pmTable___init__ anTable___init__ cdTable___init__ ctTable___init__), slTable___init__⟩)
    (cTable___init__ : PySem.W.codeIn K cdTable___init__ "Table.__init__" = true)
    (kTable___init__ : PySem.W.keepIn K (.ref fTable___init__) = true)
    (alaw : PySem.W.nsIn K mainGlobals "law" = some (some (.ref flaw)))
    (llaw : K.lookup flaw = some ⟨oclaw, odlaw, .func (PySem.W.fnOf "law" "law" (defArgs s_law) (defBody s_law) (defScope s_law) .none kVlaw dclaw pmlaw anlaw cdlaw ctlaw), sllaw⟩)
    (claw : PySem.W.codeIn K cdlaw "law" = true)
    (klaw : PySem.W.keepIn K (.ref flaw) = true)
    (pg : PySem.W.plainGet K C Str.empty = true)
    (hd : PySem.W.hasDictIn K C = true)
    (po : PySem.W.plainOver K C = true)
    (sa : PySem.W.findIn K (.ref C) "__setattr__" = some (some (.builtin "object.__setattr__")))
    (mk : PySem.W.makesIn K C = true)
    (kc : PySem.W.keepIn K (.ref C) = true)
    (n_columns : PySem.W.findIn K (.ref C) "columns" = some none)
    (n_rows : PySem.W.findIn K (.ref C) "rows" = some none)
    (k1 : PySem.W.nsIn K mainGlobals "LONGEST_WORD" = some (some (.int 8 t1)))
    (k2 : PySem.W.nsIn K mainGlobals "GREATEST_NUMBER" = some (some (.int 999 t2)))
    (k3 : PySem.W.nsIn K mainGlobals "MOST_COLUMNS" = some (some (.int 3 t3)))
    (k4 : PySem.W.nsIn K mainGlobals "MOST_ROWS" = some (some (.int 6 t4)))
    (z_abs : PySem.W.nsIn K mainGlobals "abs" = some none)
    (z_all : PySem.W.nsIn K mainGlobals "all" = some none)
    (z_any : PySem.W.nsIn K mainGlobals "any" = some none)
    (z_bool : PySem.W.nsIn K mainGlobals "bool" = some none)
    (z_dict : PySem.W.nsIn K mainGlobals "dict" = some none)
    (z_enumerate : PySem.W.nsIn K mainGlobals "enumerate" = some none)
    (z_int : PySem.W.nsIn K mainGlobals "int" = some none)
    (z_isinstance : PySem.W.nsIn K mainGlobals "isinstance" = some none)
    (z_len : PySem.W.nsIn K mainGlobals "len" = some none)
    (z_list : PySem.W.nsIn K mainGlobals "list" = some none)
    (z_max : PySem.W.nsIn K mainGlobals "max" = some none)
    (z_min : PySem.W.nsIn K mainGlobals "min" = some none)
    (z_range : PySem.W.nsIn K mainGlobals "range" = some none)
    (z_repr : PySem.W.nsIn K mainGlobals "repr" = some none)
    (z_reversed : PySem.W.nsIn K mainGlobals "reversed" = some none)
    (z_set : PySem.W.nsIn K mainGlobals "set" = some none)
    (z_sorted : PySem.W.nsIn K mainGlobals "sorted" = some none)
    (z_str : PySem.W.nsIn K mainGlobals "str" = some none)
    (z_sum : PySem.W.nsIn K mainGlobals "sum" = some none)
    (z_tuple : PySem.W.nsIn K mainGlobals "tuple" = some none)
    (z_zip : PySem.W.nsIn K mainGlobals "zip" = some none)
    (aeK : PySem.W.nsIn K mainGlobals "BadColumns" = some (some (.ref EK)))
    (xeK : K.lookup EK = some (excClassObj nmeK qqeK EK NK bseK [.ref CH, .type "ValueError", .type "Exception", .type "BaseException", .type "object"] true sneK subeK abeK coleK ddeK m0eK m1eK m2eK m3eK m5eK "ValueError.__new__"))
    (saeK : PySem.W.findIn K (.ref EK) "__setattr__" = some (some (.builtin "object.__setattr__")))
    (gaeK : PySem.W.findIn K (.ref EK) "__getattribute__" = some (some (.builtin "BaseException.__getattribute__")))
    (ggeK : PySem.W.findIn K (.ref EK) "__getattr__" = some none)
    (nbeK : PySem.W.findIn K (.ref EK) "value" = some none)
    (ieK : PySem.W.findIn K (.ref EK) "__init__" = some (some (.ref iK)))
    (teK : PySem.W.typeIn K (.ref iK) = some (.type "function"))
    (leK : K.lookup iK = some ⟨oceK, odeK, .func (PySem.W.fnOf "__init__" "BadColumns.__init__" (PySem.LowV.iA p1eK p2eK) (PySem.LowV.iB p3eK p4eK p5eK p6eK) PySem.LowV.iS .none .none dceK pmeK aneK cdeK cteK), sleK⟩)
    (ceK : PySem.W.codeIn K cdeK "BadColumns.__init__" = true)
    (keK : PySem.W.keepIn K (.ref EK) = true)
    (eeK : PySem.W.subIn K (.ref EK) (.type "BaseException") = some true)
    (tyeK : PySem.W.typeIn K (.ref EK) = some (.type "type"))
    (heK : PySem.W.hasDictIn K EK = true)
    (iceK : PySem.W.isClsIn K EK = true)
    (seK : PySem.W.subIn K (.ref EK) (.ref EK) = some true)
    (aeR : PySem.W.nsIn K mainGlobals "BadRows" = some (some (.ref ER)))
    (xeR : K.lookup ER = some (excClassObj nmeR qqeR ER NR bseR [.ref CH, .type "ValueError", .type "Exception", .type "BaseException", .type "object"] true sneR subeR abeR coleR ddeR m0eR m1eR m2eR m3eR m5eR "ValueError.__new__"))
    (saeR : PySem.W.findIn K (.ref ER) "__setattr__" = some (some (.builtin "object.__setattr__")))
    (gaeR : PySem.W.findIn K (.ref ER) "__getattribute__" = some (some (.builtin "BaseException.__getattribute__")))
    (ggeR : PySem.W.findIn K (.ref ER) "__getattr__" = some none)
    (nbeR : PySem.W.findIn K (.ref ER) "value" = some none)
    (ieR : PySem.W.findIn K (.ref ER) "__init__" = some (some (.ref iR)))
    (teR : PySem.W.typeIn K (.ref iR) = some (.type "function"))
    (leR : K.lookup iR = some ⟨oceR, odeR, .func (PySem.W.fnOf "__init__" "BadRows.__init__" (PySem.LowV.iA p1eR p2eR) (PySem.LowV.iB p3eR p4eR p5eR p6eR) PySem.LowV.iS .none .none dceR pmeR aneR cdeR cteR), sleR⟩)
    (ceR : PySem.W.codeIn K cdeR "BadRows.__init__" = true)
    (keR : PySem.W.keepIn K (.ref ER) = true)
    (eeR : PySem.W.subIn K (.ref ER) (.type "BaseException") = some true)
    (tyeR : PySem.W.typeIn K (.ref ER) = some (.type "type"))
    (heR : PySem.W.hasDictIn K ER = true)
    (iceR : PySem.W.isClsIn K ER = true)
    (seR : PySem.W.subIn K (.ref ER) (.ref ER) = some true)
    (aeW : PySem.W.nsIn K mainGlobals "BadRow" = some (some (.ref EW)))
    (xeW : K.lookup EW = some (excClassObj nmeW qqeW EW NW bseW [.ref CH, .type "ValueError", .type "Exception", .type "BaseException", .type "object"] true sneW subeW abeW coleW ddeW m0eW m1eW m2eW m3eW m5eW "ValueError.__new__"))
    (saeW : PySem.W.findIn K (.ref EW) "__setattr__" = some (some (.builtin "object.__setattr__")))
    (gaeW : PySem.W.findIn K (.ref EW) "__getattribute__" = some (some (.builtin "BaseException.__getattribute__")))
    (ggeW : PySem.W.findIn K (.ref EW) "__getattr__" = some none)
    (nbeW : PySem.W.findIn K (.ref EW) "value" = some none)
    (ieW : PySem.W.findIn K (.ref EW) "__init__" = some (some (.ref iW)))
    (teW : PySem.W.typeIn K (.ref iW) = some (.type "function"))
    (leW : K.lookup iW = some ⟨oceW, odeW, .func (PySem.W.fnOf "__init__" "BadRow.__init__" (PySem.LowV.iA p1eW p2eW) (PySem.LowV.iB p3eW p4eW p5eW p6eW) PySem.LowV.iS .none .none dceW pmeW aneW cdeW cteW), sleW⟩)
    (ceW : PySem.W.codeIn K cdeW "BadRow.__init__" = true)
    (keW : PySem.W.keepIn K (.ref EW) = true)
    (eeW : PySem.W.subIn K (.ref EW) (.type "BaseException") = some true)
    (tyeW : PySem.W.typeIn K (.ref EW) = some (.type "type"))
    (heW : PySem.W.hasDictIn K EW = true)
    (iceW : PySem.W.isClsIn K EW = true)
    (seW : PySem.W.subIn K (.ref EW) (.ref EW) = some true)
    (aeM : PySem.W.nsIn K mainGlobals "TooMany" = some (some (.ref EM)))
    (xeM : K.lookup EM = some (excClassObj nmeM qqeM EM NM bseM [.ref CH, .type "ValueError", .type "Exception", .type "BaseException", .type "object"] true sneM subeM abeM coleM ddeM m0eM m1eM m2eM m3eM m5eM "ValueError.__new__"))
    (saeM : PySem.W.findIn K (.ref EM) "__setattr__" = some (some (.builtin "object.__setattr__")))
    (gaeM : PySem.W.findIn K (.ref EM) "__getattribute__" = some (some (.builtin "BaseException.__getattribute__")))
    (ggeM : PySem.W.findIn K (.ref EM) "__getattr__" = some none)
    (nbeM : PySem.W.findIn K (.ref EM) "limit" = some none)
    (ieM : PySem.W.findIn K (.ref EM) "__init__" = some (some (.ref iM)))
    (teM : PySem.W.typeIn K (.ref iM) = some (.type "function"))
    (leM : K.lookup iM = some ⟨oceM, odeM, .func (PySem.W.fnOf "__init__" "TooMany.__init__" (PySem.LowL.iA p1eM p2eM) (PySem.LowL.iB p3eM p4eM p5eM p6eM) PySem.LowL.iS .none .none dceM pmeM aneM cdeM cteM), sleM⟩)
    (ceM : PySem.W.codeIn K cdeM "TooMany.__init__" = true)
    (keM : PySem.W.keepIn K (.ref EM) = true)
    (eeM : PySem.W.subIn K (.ref EM) (.type "BaseException") = some true)
    (tyeM : PySem.W.typeIn K (.ref EM) = some (.type "type"))
    (heM : PySem.W.hasDictIn K EM = true)
    (iceM : PySem.W.isClsIn K EM = true)
    (seM : PySem.W.subIn K (.ref EM) (.ref EM) = some true)
    (aeA : PySem.W.nsIn K mainGlobals "BadAlignment" = some (some (.ref EA)))
    (xeA : K.lookup EA = some (excClassObj nmeA qqeA EA NA bseA [.ref CH, .type "ValueError", .type "Exception", .type "BaseException", .type "object"] true sneA subeA abeA coleA ddeA m0eA m1eA m2eA m3eA m5eA "ValueError.__new__"))
    (saeA : PySem.W.findIn K (.ref EA) "__setattr__" = some (some (.builtin "object.__setattr__")))
    (gaeA : PySem.W.findIn K (.ref EA) "__getattribute__" = some (some (.builtin "BaseException.__getattribute__")))
    (ggeA : PySem.W.findIn K (.ref EA) "__getattr__" = some none)
    (nbeA : PySem.W.findIn K (.ref EA) "value" = some none)
    (ieA : PySem.W.findIn K (.ref EA) "__init__" = some (some (.ref iA)))
    (teA : PySem.W.typeIn K (.ref iA) = some (.type "function"))
    (leA : K.lookup iA = some ⟨oceA, odeA, .func (PySem.W.fnOf "__init__" "BadAlignment.__init__" (PySem.LowV.iA p1eA p2eA) (PySem.LowV.iB p3eA p4eA p5eA p6eA) PySem.LowV.iS .none .none dceA pmeA aneA cdeA cteA), sleA⟩)
    (ceA : PySem.W.codeIn K cdeA "BadAlignment.__init__" = true)
    (keA : PySem.W.keepIn K (.ref EA) = true)
    (eeA : PySem.W.subIn K (.ref EA) (.type "BaseException") = some true)
    (tyeA : PySem.W.typeIn K (.ref EA) = some (.type "type"))
    (heA : PySem.W.hasDictIn K EA = true)
    (iceA : PySem.W.isClsIn K EA = true)
    (seA : PySem.W.subIn K (.ref EA) (.ref EA) = some true)
    (aeB : PySem.W.nsIn K mainGlobals "BadCondition" = some (some (.ref EB)))
    (xeB : K.lookup EB = some (excClassObj nmeB qqeB EB NB bseB [.ref CH, .type "ValueError", .type "Exception", .type "BaseException", .type "object"] true sneB subeB abeB coleB ddeB m0eB m1eB m2eB m3eB m5eB "ValueError.__new__"))
    (saeB : PySem.W.findIn K (.ref EB) "__setattr__" = some (some (.builtin "object.__setattr__")))
    (gaeB : PySem.W.findIn K (.ref EB) "__getattribute__" = some (some (.builtin "BaseException.__getattribute__")))
    (ggeB : PySem.W.findIn K (.ref EB) "__getattr__" = some none)
    (nbeB : PySem.W.findIn K (.ref EB) "value" = some none)
    (ieB : PySem.W.findIn K (.ref EB) "__init__" = some (some (.ref iB)))
    (teB : PySem.W.typeIn K (.ref iB) = some (.type "function"))
    (leB : K.lookup iB = some ⟨oceB, odeB, .func (PySem.W.fnOf "__init__" "BadCondition.__init__" (PySem.LowV.iA p1eB p2eB) (PySem.LowV.iB p3eB p4eB p5eB p6eB) PySem.LowV.iS .none .none dceB pmeB aneB cdeB cteB), sleB⟩)
    (ceB : PySem.W.codeIn K cdeB "BadCondition.__init__" = true)
    (keB : PySem.W.keepIn K (.ref EB) = true)
    (eeB : PySem.W.subIn K (.ref EB) (.type "BaseException") = some true)
    (tyeB : PySem.W.typeIn K (.ref EB) = some (.type "type"))
    (heB : PySem.W.hasDictIn K EB = true)
    (iceB : PySem.W.isClsIn K EB = true)
    (seB : PySem.W.subIn K (.ref EB) (.ref EB) = some true)
    (s_BA : PySem.W.subIn K (.ref EB) (.ref EA) = some false)
    (aKN : PySem.W.nsIn K mainGlobals "KINDS" = some (some (.ref KN)))
    (lKN : K.lookup KN = some ⟨.type "tuple", odKN, .seq #[.str "column" u1, .str "row" u2] nKN, slKN⟩)
    (k5 : PySem.W.nsIn K mainGlobals "MOST_CONDITIONS" = some (some (.int 40 t5))) :
    ∃ fd : FuncData, (∀ (s : Shared) (v : Value), BindsTo s fd ⟨[v], []⟩ [("_law_script", v)]) ∧ ∀ base : Heap, K.In base → base.Ns mainGlobals mg → FnG l.prog w K mg base CX0 11 fa fd ["_law_script"] (spLaw K) := by
  have e := hfa.symm.trans (PySem.W.mg_of X G alaw)
  cases e
  have loweK : PySem.LowV.LowTxt K mg "BadColumns" "BadColumns.__init__" EK iK :=
    { gC := PySem.W.mg_of X G aeK
      cls := ⟨nmeK, qqeK, NK, bseK, _, sneK, subeK, abeK, coleK, ddeK, m0eK, m1eK, m2eK, m3eK, m5eK, xeK, rfl⟩
      sa := saeK
      ga := gaeK
      gg := ggeK
      noN := nbeK
      iC := ieK
      tC := teK
      kC := keK
      exC := eeK
      tyC := tyeK
      hdC := heK
      te := exm_of eeK iceK tyeK seK
      fn := ⟨_, _, _, _, _, _, _, _, _, _, _, _, _, _, leK, ceK⟩ }
  have loweR : PySem.LowV.LowTxt K mg "BadRows" "BadRows.__init__" ER iR :=
    { gC := PySem.W.mg_of X G aeR
      cls := ⟨nmeR, qqeR, NR, bseR, _, sneR, subeR, abeR, coleR, ddeR, m0eR, m1eR, m2eR, m3eR, m5eR, xeR, rfl⟩
      sa := saeR
      ga := gaeR
      gg := ggeR
      noN := nbeR
      iC := ieR
      tC := teR
      kC := keR
      exC := eeR
      tyC := tyeR
      hdC := heR
      te := exm_of eeR iceR tyeR seR
      fn := ⟨_, _, _, _, _, _, _, _, _, _, _, _, _, _, leR, ceR⟩ }
  have loweW : PySem.LowV.LowTxt K mg "BadRow" "BadRow.__init__" EW iW :=
    { gC := PySem.W.mg_of X G aeW
      cls := ⟨nmeW, qqeW, NW, bseW, _, sneW, subeW, abeW, coleW, ddeW, m0eW, m1eW, m2eW, m3eW, m5eW, xeW, rfl⟩
      sa := saeW
      ga := gaeW
      gg := ggeW
      noN := nbeW
      iC := ieW
      tC := teW
      kC := keW
      exC := eeW
      tyC := tyeW
      hdC := heW
      te := exm_of eeW iceW tyeW seW
      fn := ⟨_, _, _, _, _, _, _, _, _, _, _, _, _, _, leW, ceW⟩ }
  have loweM : PySem.LowL.LowTxt K mg "TooMany" "TooMany.__init__" EM iM :=
    { gC := PySem.W.mg_of X G aeM
      cls := ⟨nmeM, qqeM, NM, bseM, _, sneM, subeM, abeM, coleM, ddeM, m0eM, m1eM, m2eM, m3eM, m5eM, xeM, rfl⟩
      sa := saeM
      ga := gaeM
      gg := ggeM
      noN := nbeM
      iC := ieM
      tC := teM
      kC := keM
      exC := eeM
      tyC := tyeM
      hdC := heM
      te := exm_of eeM iceM tyeM seM
      fn := ⟨_, _, _, _, _, _, _, _, _, _, _, _, _, _, leM, ceM⟩ }
  have loweA : PySem.LowV.LowTxt K mg "BadAlignment" "BadAlignment.__init__" EA iA :=
    { gC := PySem.W.mg_of X G aeA
      cls := ⟨nmeA, qqeA, NA, bseA, _, sneA, subeA, abeA, coleA, ddeA, m0eA, m1eA, m2eA, m3eA, m5eA, xeA, rfl⟩
      sa := saeA
      ga := gaeA
      gg := ggeA
      noN := nbeA
      iC := ieA
      tC := teA
      kC := keA
      exC := eeA
      tyC := tyeA
      hdC := heA
      te := exm_of eeA iceA tyeA seA
      fn := ⟨_, _, _, _, _, _, _, _, _, _, _, _, _, _, leA, ceA⟩ }
  have loweB : PySem.LowV.LowTxt K mg "BadCondition" "BadCondition.__init__" EB iB :=
    { gC := PySem.W.mg_of X G aeB
      cls := ⟨nmeB, qqeB, NB, bseB, _, sneB, subeB, abeB, coleB, ddeB, m0eB, m1eB, m2eB, m3eB, m5eB, xeB, rfl⟩
      sa := saeB
      ga := gaeB
      gg := ggeB
      noN := nbeB
      iC := ieB
      tC := teB
      kC := keB
      exC := eeB
      tyC := tyeB
      hdC := heB
      te := exm_of eeB iceB tyeB seB
      fn := ⟨_, _, _, _, _, _, _, _, _, _, _, _, _, _, leB, ceB⟩ }
  let T : Txt K mg :=
    { C := C, EK := EK, ER := ER, EW := EW, EM := EM, iK := iK, iR := iR, iW := iW, iM := iM, t1 := t1, t2 := t2, t3 := t3, t4 := t4
      eK := loweK
      eR := loweR
      eW := loweW
      eM := loweM
      cl := ⟨pg, hd, po, sa⟩
      n_columns := n_columns
      n_rows := n_rows
      g_Table := PySem.W.mg_of X G aC
      c_LONGEST_WORD := PySem.W.mg_of X G k1
      c_GREATEST_NUMBER := PySem.W.mg_of X G k2
      c_MOST_COLUMNS := PySem.W.mg_of X G k3
      c_MOST_ROWS := PySem.W.mg_of X G k4
      b_abs := PySem.W.mg_none_of X G z_abs
      b_all := PySem.W.mg_none_of X G z_all
      b_any := PySem.W.mg_none_of X G z_any
      b_bool := PySem.W.mg_none_of X G z_bool
      b_dict := PySem.W.mg_none_of X G z_dict
      b_enumerate := PySem.W.mg_none_of X G z_enumerate
      b_int := PySem.W.mg_none_of X G z_int
      b_isinstance := PySem.W.mg_none_of X G z_isinstance
      b_len := PySem.W.mg_none_of X G z_len
      b_list := PySem.W.mg_none_of X G z_list
      b_max := PySem.W.mg_none_of X G z_max
      b_min := PySem.W.mg_none_of X G z_min
      b_range := PySem.W.mg_none_of X G z_range
      b_repr := PySem.W.mg_none_of X G z_repr
      b_reversed := PySem.W.mg_none_of X G z_reversed
      b_set := PySem.W.mg_none_of X G z_set
      b_sorted := PySem.W.mg_none_of X G z_sorted
      b_str := PySem.W.mg_none_of X G z_str
      b_sum := PySem.W.mg_none_of X G z_sum
      b_tuple := PySem.W.mg_none_of X G z_tuple
      b_zip := PySem.W.mg_none_of X G z_zip }
  let TA : TxtA K mg :=
    { toTxt := T, EA := EA, EB := EB, iA := iA, iB := iB, KN := KN, t5 := t5
      eA := loweA
      eB := loweB
      c_KINDS := PySem.W.mg_of X G aKN
      kinds := kinds_of lKN
      c_MOST_CONDITIONS := PySem.W.mg_of X G k5 }
  have Fis_integer := fun_mk (st := s_is_integer) lis_integer cis_integer kis_integer
  have bis_integer := Fis_integer.binds (ps := ["value"]) fun _ _ _ _ _ _ us hl => match us, hl with | [_], _ => rfl
  have Fis_integer_within := fun_mk (st := s_is_integer_within) lis_integer_within cis_integer_within kis_integer_within
  have bis_integer_within := Fis_integer_within.binds (ps := ["value", "least", "most"]) fun _ _ _ _ _ _ us hl => match us, hl with | [_, _, _], _ => rfl
  have Fis_word := fun_mk (st := s_is_word) lis_word cis_word kis_word
  have bis_word := Fis_word.binds (ps := ["value"]) fun _ _ _ _ _ _ us hl => match us, hl with | [_], _ => rfl
  have Fis_cell := fun_mk (st := s_is_cell) lis_cell cis_cell kis_cell
  have bis_cell := Fis_cell.binds (ps := ["value"]) fun _ _ _ _ _ _ us hl => match us, hl with | [_], _ => rfl
  have Fare_columns := fun_mk (st := s_are_columns) lare_columns care_columns kare_columns
  have bare_columns := Fare_columns.binds (ps := ["value"]) fun _ _ _ _ _ _ us hl => match us, hl with | [_], _ => rfl
  have Fis_row := fun_mk (st := s_is_row) lis_row cis_row kis_row
  have bis_row := Fis_row.binds (ps := ["value", "width"]) fun _ _ _ _ _ _ us hl => match us, hl with | [_, _], _ => rfl
  have Flaw_draw := fun_mk (st := s_law_draw) llaw_draw claw_draw klaw_draw
  have blaw_draw := Flaw_draw.binds (ps := ["_law_pot_here", "_law_many"]) fun _ _ _ _ _ _ us hl => match us, hl with | [_, _], _ => rfl
  have Flaw_any := fun_mk (st := s_law_any) llaw_any claw_any klaw_any
  have blaw_any := Flaw_any.binds (ps := ["_law_pot_here", "_law_items"]) fun _ _ _ _ _ _ us hl => match us, hl with | [_, _], _ => rfl
  have Flaw_pot := fun_mk (st := s_law_pot) llaw_pot claw_pot klaw_pot
  have blaw_pot := Flaw_pot.binds (ps := ["_law_script", "_law_k"]) fun _ _ _ _ _ _ us hl => match us, hl with | [_, _], _ => rfl
  have Flaw_words := fun_mk (st := s_law_words) llaw_words claw_words klaw_words
  have blaw_words := Flaw_words.binds (ps := ["_law_pot_here", "_law_many"]) fun _ _ _ _ _ _ us hl => match us, hl with | [_, _], _ => rfl
  have Flaw_cell := fun_mk (st := s_law_cell) llaw_cell claw_cell klaw_cell
  have blaw_cell := Flaw_cell.binds (ps := ["_law_pot_here"]) fun _ _ _ _ _ _ us hl => match us, hl with | [_], _ => rfl
  have Flaw_rows := fun_mk (st := s_law_rows) llaw_rows claw_rows klaw_rows
  have blaw_rows := Flaw_rows.binds (ps := ["_law_pot_here", "_law_wide", "_law_many"]) fun _ _ _ _ _ _ us hl => match us, hl with | [_, _, _], _ => rfl
  have Flaw_table := fun_mk (st := s_law_table) llaw_table claw_table klaw_table
  have blaw_table := Flaw_table.binds (ps := ["_law_pot_here", "_law_wide", "_law_tall"]) fun _ _ _ _ _ _ us hl => match us, hl with | [_, _, _], _ => rfl
  have Fis_place := fun_mk (st := s_is_place) lis_place cis_place kis_place
  have bis_place := Fis_place.binds (ps := ["value", "many"]) fun _ _ _ _ _ _ us hl => match us, hl with | [_, _], _ => rfl
  have Fis_pair := fun_mk (st := s_is_pair) lis_pair cis_pair kis_pair
  have bis_pair := Fis_pair.binds (ps := ["value", "many", "many_other"]) fun _ _ _ _ _ _ us hl => match us, hl with | [_, _, _], _ => rfl
  have Fare_pairs := fun_mk (st := s_are_pairs) lare_pairs care_pairs kare_pairs
  have bare_pairs := Fare_pairs.binds (ps := ["value", "many", "many_other"]) fun _ _ _ _ _ _ us hl => match us, hl with | [_, _, _], _ => rfl
  have Fis_alignment := fun_mk (st := s_is_alignment) lis_alignment cis_alignment kis_alignment
  have bis_alignment := Fis_alignment.binds (ps := ["one", "other", "value"]) fun _ _ _ _ _ _ us hl => match us, hl with | [_, _, _], _ => rfl
  have Flaw_is_int := fun_mk (st := s_law_is_int) llaw_is_int claw_is_int klaw_is_int
  have blaw_is_int := Flaw_is_int.binds (ps := ["_law_value", "_law_low", "_law_high"]) fun _ _ _ _ _ _ us hl => match us, hl with | [_, _, _], _ => rfl
  have Flaw_odd := fun_mk (st := s_law_odd) llaw_odd claw_odd klaw_odd
  have blaw_odd := Flaw_odd.binds (ps := ["_law_pot_here", "_law_thing"]) fun _ _ _ _ _ _ us hl => match us, hl with | [_, _], _ => rfl
  have Flaw_bent := fun_mk (st := s_law_bent) llaw_bent claw_bent klaw_bent
  have blaw_bent := Flaw_bent.binds (ps := ["_law_pot_here", "_law_thing", "_law_deep"]) fun _ _ _ _ _ _ us hl => match us, hl with | [_, _, _], _ => rfl
  have Flaw_drawn_pairs := fun_mk (st := s_law_drawn_pairs) llaw_drawn_pairs claw_drawn_pairs klaw_drawn_pairs
  have blaw_drawn_pairs := Flaw_drawn_pairs.binds (ps := ["_law_pot_here", "_law_many", "_law_others"]) fun _ _ _ _ _ _ us hl => match us, hl with | [_, _, _], _ => rfl
  have Flaw_laid := fun_mk (st := s_law_laid) llaw_laid claw_laid klaw_laid
  have blaw_laid := Flaw_laid.binds (ps := ["_law_pot_here", "_law_first", "_law_second"]) fun _ _ _ _ _ _ us hl => match us, hl with | [_, _, _], _ => rfl
  have Flaw_are_pairs := fun_mk (st := s_law_are_pairs) llaw_are_pairs claw_are_pairs klaw_are_pairs
  have blaw_are_pairs := Flaw_are_pairs.binds (ps := ["_law_value", "_law_many", "_law_others"]) fun _ _ _ _ _ _ us hl => match us, hl with | [_, _, _], _ => rfl
  have Flaw_is_laid := fun_mk (st := s_law_is_laid) llaw_is_laid claw_is_laid klaw_is_laid
  have blaw_is_laid := Flaw_is_laid.binds (ps := ["_law_first", "_law_second", "_law_value"]) fun _ _ _ _ _ _ us hl => match us, hl with | [_, _, _], _ => rfl
  have Fhow_many_places := fun_mk (st := s_how_many_places) lhow_many_places chow_many_places khow_many_places
  have bhow_many_places := Fhow_many_places.binds (ps := ["table", "kind"]) fun _ _ _ _ _ _ us hl => match us, hl with | [_, _], _ => rfl
  have Fcheck_alignment := fun_mk (st := s_check_alignment) lcheck_alignment ccheck_alignment kcheck_alignment
  have bcheck_alignment := Fcheck_alignment.binds (ps := ["one", "other", "value"]) fun _ _ _ _ _ _ us hl => match us, hl with | [_, _, _], _ => rfl
  have Fis_place_or_none := fun_mk (st := s_is_place_or_none) lis_place_or_none cis_place_or_none kis_place_or_none
  have bis_place_or_none := Fis_place_or_none.binds (ps := ["value", "many"]) fun _ _ _ _ _ _ us hl => match us, hl with | [_, _], _ => rfl
  have Fis_condition := fun_mk (st := s_is_condition) lis_condition cis_condition kis_condition
  have bis_condition := Fis_condition.binds (ps := ["one", "other", "value"]) fun _ _ _ _ _ _ us hl => match us, hl with | [_, _, _], _ => rfl
  have Fcheck_conditions := fun_mk (st := s_check_conditions) lcheck_conditions ccheck_conditions kcheck_conditions
  have bcheck_conditions := Fcheck_conditions.binds (ps := ["one", "other", "value"]) fun _ _ _ _ _ _ us hl => match us, hl with | [_, _, _], _ => rfl
  have Fis_true_of_pairs := fun_mk (st := s_is_true_of_pairs) lis_true_of_pairs cis_true_of_pairs kis_true_of_pairs
  have bis_true_of_pairs := Fis_true_of_pairs.binds (ps := ["pairs", "i", "j"]) fun _ _ _ _ _ _ us hl => match us, hl with | [_, _, _], _ => rfl
  have Fpairs_keep := fun_mk (st := s_pairs_keep) lpairs_keep cpairs_keep kpairs_keep
  have bpairs_keep := Fpairs_keep.binds (ps := ["pairs", "conditions", "kind"]) fun _ _ _ _ _ _ us hl => match us, hl with | [_, _, _], _ => rfl
  have Fkeeps_conditions := fun_mk (st := s_keeps_conditions) lkeeps_conditions ckeeps_conditions kkeeps_conditions
  have bkeeps_conditions := Fkeeps_conditions.binds (ps := ["alignment", "conditions"]) fun _ _ _ _ _ _ us hl => match us, hl with | [_, _], _ => rfl
  have Fkeeps := fun_mk (st := s_keeps) lkeeps ckeeps kkeeps
  have bkeeps := Fkeeps.binds (ps := ["one", "other", "alignment", "conditions"]) fun _ _ _ _ _ _ us hl => match us, hl with | [_, _, _, _], _ => rfl
  have Flaw_claim := fun_mk (st := s_law_claim) llaw_claim claw_claim klaw_claim
  have blaw_claim := Flaw_claim.binds (ps := ["_law_pot_here", "_law_first", "_law_second"]) fun _ _ _ _ _ _ us hl => match us, hl with | [_, _, _], _ => rfl
  have Flaw_is_claim := fun_mk (st := s_law_is_claim) llaw_is_claim claw_is_claim klaw_is_claim
  have blaw_is_claim := Flaw_is_claim.binds (ps := ["_law_first", "_law_second", "_law_value"]) fun _ _ _ _ _ _ us hl => match us, hl with | [_, _, _], _ => rfl
  have Flaw_bad := fun_mk (st := s_law_bad) llaw_bad claw_bad klaw_bad
  have blaw_bad := Flaw_bad.binds (ps := ["_law_first", "_law_second", "_law_wants"]) fun _ _ _ _ _ _ us hl => match us, hl with | [_, _, _], _ => rfl
  have Flaw_heard := fun_mk (st := s_law_heard) llaw_heard claw_heard klaw_heard
  have blaw_heard := Flaw_heard.binds (ps := ["_law_first", "_law_second", "_law_laid_here", "_law_wants"]) fun _ _ _ _ _ _ us hl => match us, hl with | [_, _, _, _], _ => rfl
  have Flaw_case := fun_mk (st := s_law_case) llaw_case claw_case klaw_case
  have blaw_case := Flaw_case.binds (ps := ["_law_pot_here", "_law_first", "_law_second"]) fun _ _ _ _ _ _ us hl => match us, hl with | [_, _, _], _ => rfl
  have Flaw_right := fun_mk (st := s_law_right) llaw_right claw_right klaw_right
  have blaw_right := Flaw_right.binds (ps := ["_law_pot_here"]) fun _ _ _ _ _ _ us hl => match us, hl with | [_], _ => rfl
  have FTable___init__ := fun_mk (st := s_Table___init__) lTable___init__ cTable___init__ kTable___init__
  have bTable___init__ := FTable___init__.binds (ps := ["self", "columns", "rows"]) fun _ _ _ _ _ _ us hl => match us, hl with | [_, _, _], _ => rfl
  have Flaw := fun_mk (st := s_law) llaw claw klaw
  have blaw := Flaw.binds (ps := ["_law_script"]) fun _ _ _ _ _ _ us hl => match us, hl with | [_], _ => rfl
  have mg_ : ∀ {n : Str} {v : Value}, PySem.W.nsIn K mainGlobals n = some (some v) → mg n = some v := fun e => PySem.W.mg_of X G e
  have cis_integer : ∀ base, Ca l.prog w K mg base CX0 "is_integer" 1 _ (spInteger K) fis_integer _ := fun base => ⟨ok_integer Fis_integer T, mg_ ais_integer, kis_integer, bis_integer⟩
  have cis_integer_within : ∀ base, Ca l.prog w K mg base CX0 "is_integer_within" 2 _ (spWithin K) fis_integer_within _ := fun base => ⟨ok_within Fis_integer_within T cis_integer, mg_ ais_integer_within, kis_integer_within, bis_integer_within⟩
  have cis_word : ∀ base, Ca l.prog w K mg base CX0 "is_word" 1 _ (spWord K) fis_word _ := fun base => ⟨ok_word Fis_word T, mg_ ais_word, kis_word, bis_word⟩
  have cis_cell : ∀ base, Ca l.prog w K mg base CX0 "is_cell" 3 _ (spCell K) fis_cell _ := fun base => ⟨ok_cell Fis_cell T cis_integer_within cis_word, mg_ ais_cell, kis_cell, bis_cell⟩
  have care_columns : ∀ base, Ca l.prog w K mg base CX0 "are_columns" 2 _ (spCols K) fare_columns _ := fun base => ⟨ok_cols Fare_columns T cis_word, mg_ aare_columns, kare_columns, bare_columns⟩
  have cis_row : ∀ base, Ca l.prog w K mg base CX0 "is_row" 4 _ (spRow K) fis_row _ := fun base => ⟨ok_row Fis_row T cis_cell, mg_ ais_row, kis_row, bis_row⟩
  have gI : ∀ base, FnOk l.prog w K mg base (L2.CX l.prog w) 5 fTable___init__ _ _ (spInit K T.C T.EK T.ER T.EW T.EM) := fun base => ok_init FTable___init__ T care_columns cis_row
  have MT : Mk K T.C fTable___init__ := ⟨mk, aTable___init__, iTable___init__, kc⟩
  have claw_draw : ∀ base, Ca l.prog w K mg base CX0 "_law_draw" 1 _ spDraw flaw_draw _ := fun base => ⟨ok_draw Flaw_draw T, mg_ alaw_draw, klaw_draw, blaw_draw⟩
  have claw_any : ∀ base, Ca l.prog w K mg base CX0 "_law_any" 2 _ spAny flaw_any _ := fun base => ⟨ok_any Flaw_any T claw_draw, mg_ alaw_any, klaw_any, blaw_any⟩
  have claw_pot : ∀ base, Ca l.prog w K mg base CX0 "_law_pot" 1 _ (spPot K) flaw_pot _ := fun base => ⟨ok_pot Flaw_pot T, mg_ alaw_pot, klaw_pot, blaw_pot⟩
  have claw_words : ∀ base, Ca l.prog w K mg base CX0 "_law_words" 2 _ spWords flaw_words _ := fun base => ⟨ok_words Flaw_words T claw_draw, mg_ alaw_words, klaw_words, blaw_words⟩
  have claw_cell : ∀ base, Ca l.prog w K mg base CX0 "_law_cell" 3 _ spACell flaw_cell _ := fun base => ⟨ok_acell Flaw_cell T claw_any, mg_ alaw_cell, klaw_cell, blaw_cell⟩
  have claw_rows : ∀ base, Ca l.prog w K mg base CX0 "_law_rows" 4 _ spRows flaw_rows _ := fun base => ⟨ok_rows Flaw_rows T claw_cell, mg_ alaw_rows, klaw_rows, blaw_rows⟩
  have claw_table : ∀ base, Ca l.prog w K mg base CX0 "_law_table" 7 _ (spTable K T.C) flaw_table _ := fun base => ⟨ok_table Flaw_table T MT claw_draw claw_words claw_rows gI bTable___init__, mg_ alaw_table, klaw_table, blaw_table⟩
  have cis_place : ∀ base, Ca l.prog w K mg base CX0 "is_place" 3 _ (spPlace K) fis_place _ := fun base => ⟨ok_place Fis_place T cis_integer_within, mg_ ais_place, kis_place, bis_place⟩
  have cis_pair : ∀ base, Ca l.prog w K mg base CX0 "is_pair" 4 _ (spPair K) fis_pair _ := fun base => ⟨ok_pair Fis_pair T cis_place, mg_ ais_pair, kis_pair, bis_pair⟩
  have care_pairs : ∀ base, Ca l.prog w K mg base CX0 "are_pairs" 5 _ (spPairs K) fare_pairs _ := fun base => ⟨ok_pairs Fare_pairs T cis_pair, mg_ aare_pairs, kare_pairs, bare_pairs⟩
  have cis_alignment : ∀ base, Ca l.prog w K mg base CX0 "is_alignment" 6 _ (spIsAl K T.C) fis_alignment _ := fun base => ⟨ok_isal Fis_alignment T care_pairs, mg_ ais_alignment, kis_alignment, bis_alignment⟩
  have claw_is_int : ∀ base, Ca l.prog w K mg base CX0 "_law_is_int" 1 _ (spWithin K) flaw_is_int _ := fun base => ⟨ok_is_int Flaw_is_int T, mg_ alaw_is_int, klaw_is_int, blaw_is_int⟩
  have claw_odd : ∀ base, Ca l.prog w K mg base CX0 "_law_odd" 3 _ (spOdd K) flaw_odd _ := fun base => ⟨ok_odd Flaw_odd T claw_any, mg_ alaw_odd, klaw_odd, blaw_odd⟩
  have b0 : ∀ base, Ca l.prog w K mg base CX0 "_law_bent" (3 + 0) _ (spBent K 0) flaw_bent _ := fun base => ⟨bent_zero, mg_ alaw_bent, klaw_bent, blaw_bent⟩
  have b1 : ∀ base, Ca l.prog w K mg base CX0 "_law_bent" (3 + 1) _ (spBent K 1) flaw_bent _ := fun base => ⟨bent_step Flaw_bent T claw_draw claw_odd b0, mg_ alaw_bent, klaw_bent, blaw_bent⟩
  have b2 : ∀ base, Ca l.prog w K mg base CX0 "_law_bent" (3 + 2) _ (spBent K 2) flaw_bent _ := fun base => ⟨bent_step Flaw_bent T claw_draw claw_odd b1, mg_ alaw_bent, klaw_bent, blaw_bent⟩
  have b3 : ∀ base, Ca l.prog w K mg base CX0 "_law_bent" (3 + 3) _ (spBent K 3) flaw_bent _ := fun base => ⟨bent_step Flaw_bent T claw_draw claw_odd b2, mg_ alaw_bent, klaw_bent, blaw_bent⟩
  have claw_bent : ∀ base, Ca l.prog w K mg base CX0 "_law_bent" 7 _ (spBent K 4) flaw_bent _ := fun base => ⟨bent_step Flaw_bent T claw_draw claw_odd b3, mg_ alaw_bent, klaw_bent, blaw_bent⟩
  have claw_drawn_pairs : ∀ base, Ca l.prog w K mg base CX0 "_law_drawn_pairs" 2 _ (spDP K) flaw_drawn_pairs _ := fun base => ⟨ok_dp Flaw_drawn_pairs T claw_draw, mg_ alaw_drawn_pairs, klaw_drawn_pairs, blaw_drawn_pairs⟩
  have claw_laid : ∀ base, Ca l.prog w K mg base CX0 "_law_laid" 3 _ (spLaid K T.C) flaw_laid _ := fun base => ⟨ok_laid Flaw_laid T claw_drawn_pairs, mg_ alaw_laid, klaw_laid, blaw_laid⟩
  have claw_are_pairs : ∀ base, Ca l.prog w K mg base CX0 "_law_are_pairs" 2 _ (spPairs6 K) flaw_are_pairs _ := fun base => ⟨ok_lpairs Flaw_are_pairs T claw_is_int, mg_ alaw_are_pairs, klaw_are_pairs, blaw_are_pairs⟩
  have claw_is_laid : ∀ base, Ca l.prog w K mg base CX0 "_law_is_laid" 3 _ (spIsAl K T.C) flaw_is_laid _ := fun base => ⟨ok_lislaid Flaw_is_laid T claw_are_pairs, mg_ alaw_is_laid, klaw_is_laid, blaw_is_laid⟩
  have chow_many_places : ∀ base, Ca l.prog w K mg base CX0 "how_many_places" 1 _ (spMany K T.C) fhow_many_places _ := fun base => ⟨ok_many Fhow_many_places TA, mg_ ahow_many_places, khow_many_places, bhow_many_places⟩
  have ccheck_alignment : ∀ base, Ca l.prog w K mg base (L2.CX l.prog w) "check_alignment" 7 _ (spCheckAl K T.C TA.EA) fcheck_alignment _ := fun base => ⟨ok_checkal Fcheck_alignment TA cis_alignment, mg_ acheck_alignment, kcheck_alignment, bcheck_alignment⟩
  have cis_place_or_none : ∀ base, Ca l.prog w K mg base CX0 "is_place_or_none" 4 _ (spPON K) fis_place_or_none _ := fun base => ⟨ok_pon Fis_place_or_none TA cis_place, mg_ ais_place_or_none, kis_place_or_none, bis_place_or_none⟩
  have cis_condition : ∀ base, Ca l.prog w K mg base CX0 "is_condition" 5 _ (spCond K T.C) fis_condition _ := fun base => ⟨ok_cond Fis_condition TA cis_place_or_none chow_many_places, mg_ ais_condition, kis_condition, bis_condition⟩
  have ccheck_conditions : ∀ base, Ca l.prog w K mg base (L2.CX l.prog w) "check_conditions" 6 _ (spCheckC K T.C TA.EB) fcheck_conditions _ := fun base => ⟨ok_checkc Fcheck_conditions TA cis_condition, mg_ acheck_conditions, kcheck_conditions, bcheck_conditions⟩
  have cis_true_of_pairs : ∀ base, Ca l.prog w K mg base CX0 "is_true_of_pairs" 1 _ (spTrue K) fis_true_of_pairs _ := fun base => ⟨ok_true Fis_true_of_pairs TA, mg_ ais_true_of_pairs, kis_true_of_pairs, bis_true_of_pairs⟩
  have cpairs_keep : ∀ base, Ca l.prog w K mg base CX0 "pairs_keep" 2 _ (spPK K) fpairs_keep _ := fun base => ⟨ok_pk Fpairs_keep TA cis_true_of_pairs, mg_ apairs_keep, kpairs_keep, bpairs_keep⟩
  have ckeeps_conditions : ∀ base, Ca l.prog w K mg base CX0 "keeps_conditions" 3 _ (spKC K) fkeeps_conditions _ := fun base => ⟨ok_kc Fkeeps_conditions TA cpairs_keep, mg_ akeeps_conditions, kkeeps_conditions, bkeeps_conditions⟩
  have ckeeps : ∀ base, Ca l.prog w K mg base (L2.CX l.prog w) "keeps" 8 _ (spKeeps K T.C TA.EA TA.EB) fkeeps _ := fun base => ⟨ok_keeps Fkeeps TA ccheck_alignment ccheck_conditions ckeeps_conditions, mg_ akeeps, kkeeps, bkeeps⟩
  have claw_claim : ∀ base, Ca l.prog w K mg base CX0 "_law_claim" 3 _ (spClaim K T.C) flaw_claim _ := fun base => ⟨ok_claim Flaw_claim TA claw_draw claw_any, mg_ alaw_claim, klaw_claim, blaw_claim⟩
  have claw_is_claim : ∀ base, Ca l.prog w K mg base CX0 "_law_is_claim" 2 _ (spIsClaim K T.C) flaw_is_claim _ := fun base => ⟨ok_isclaim Flaw_is_claim TA claw_is_int, mg_ alaw_is_claim, klaw_is_claim, blaw_is_claim⟩
  have claw_bad : ∀ base, Ca l.prog w K mg base CX0 "_law_bad" 3 _ (spBad K T.C) flaw_bad _ := fun base => ⟨ok_bad Flaw_bad TA claw_is_claim, mg_ alaw_bad, klaw_bad, blaw_bad⟩
  have claw_heard : ∀ base, Ca l.prog w K mg base CX0 "_law_heard" 9 _ (spHeard K T.C) flaw_heard _ := fun base => ⟨ok_heard Flaw_heard TA (exm_of eeA iceA tyeA s_BA) ckeeps, mg_ alaw_heard, klaw_heard, blaw_heard⟩
  have claw_case : ∀ base, Ca l.prog w K mg base CX0 "_law_case" 8 _ (spCase K T.C) flaw_case _ := fun base => ⟨ok_case Flaw_case TA claw_draw claw_laid claw_claim claw_bent, mg_ alaw_case, klaw_case, blaw_case⟩
  have claw_right : ∀ base, CaG l.prog w K mg base "_law_right" 10 _ (spRight K) flaw_right _ := fun base => ⟨ok_right Flaw_right TA claw_table claw_case claw_bad claw_is_laid claw_heard ckeeps, mg_ alaw_right, klaw_right, blaw_right⟩
  exact ⟨_, fun s v => .of_eq rfl, fun base _ _ => ok_law Flaw TA claw_pot claw_right⟩

end K09
open PySem PySem.W PyProof.Rows in
set_option maxRecDepth 100000 in
set_option maxHeartbeats 0 in
theorem PySem.Challenge.cw_tableheld_k09_conditions_of_any_value_holds : PySem.Challenge.rw_tableheld_k09_conditions_of_any_value.Holds := by
  w_on; o_law; k_head; (case hw => w_witness2)
  k_fill
  refine Xby.walkG (l := PySem.Challenge.rw_tableheld_k09_conditions_of_any_value) (n := 63) (k := 11) (x := "_law_script") (sp := K09.spLaw) rfl (by decide) rfl ⟨rfl, by decide, by decide⟩ (fun w h Y => PySem.W.kIn_of Y) ?F (fun K H a ns hl hS ho => ⟨a, ns, rfl, hS, hl, fun _ => rfl⟩)
  case F =>
    intro w mg fa h KX G hmg
    refine' K09.all_mk KX G hmg ?aC ?ais_integer ?lis_integer ?cis_integer ?kis_integer ?ais_integer_within ?lis_integer_within ?cis_integer_within ?kis_integer_within ?ais_word ?lis_word ?cis_word ?kis_word ?ais_cell ?lis_cell ?cis_cell ?kis_cell ?aare_columns ?lare_columns ?care_columns ?kare_columns ?ais_row ?lis_row ?cis_row ?kis_row ?alaw_draw ?llaw_draw ?claw_draw ?klaw_draw ?alaw_any ?llaw_any ?claw_any ?klaw_any ?alaw_pot ?llaw_pot ?claw_pot ?klaw_pot ?alaw_words ?llaw_words ?claw_words ?klaw_words ?alaw_cell ?llaw_cell ?claw_cell ?klaw_cell ?alaw_rows ?llaw_rows ?claw_rows ?klaw_rows ?alaw_table ?llaw_table ?claw_table ?klaw_table ?ais_place ?lis_place ?cis_place ?kis_place ?ais_pair ?lis_pair ?cis_pair ?kis_pair ?aare_pairs ?lare_pairs ?care_pairs ?kare_pairs ?ais_alignment ?lis_alignment ?cis_alignment ?kis_alignment ?alaw_is_int ?llaw_is_int ?claw_is_int ?klaw_is_int ?alaw_odd ?llaw_odd ?claw_odd ?klaw_odd ?alaw_bent ?llaw_bent ?claw_bent ?klaw_bent ?alaw_drawn_pairs ?llaw_drawn_pairs ?claw_drawn_pairs ?klaw_drawn_pairs ?alaw_laid ?llaw_laid ?claw_laid ?klaw_laid ?alaw_are_pairs ?llaw_are_pairs ?claw_are_pairs ?klaw_are_pairs ?alaw_is_laid ?llaw_is_laid ?claw_is_laid ?klaw_is_laid ?ahow_many_places ?lhow_many_places ?chow_many_places ?khow_many_places ?acheck_alignment ?lcheck_alignment ?ccheck_alignment ?kcheck_alignment ?ais_place_or_none ?lis_place_or_none ?cis_place_or_none ?kis_place_or_none ?ais_condition ?lis_condition ?cis_condition ?kis_condition ?acheck_conditions ?lcheck_conditions ?ccheck_conditions ?kcheck_conditions ?ais_true_of_pairs ?lis_true_of_pairs ?cis_true_of_pairs ?kis_true_of_pairs ?apairs_keep ?lpairs_keep ?cpairs_keep ?kpairs_keep ?akeeps_conditions ?lkeeps_conditions ?ckeeps_conditions ?kkeeps_conditions ?akeeps ?lkeeps ?ckeeps ?kkeeps ?alaw_claim ?llaw_claim ?claw_claim ?klaw_claim ?alaw_is_claim ?llaw_is_claim ?claw_is_claim ?klaw_is_claim ?alaw_bad ?llaw_bad ?claw_bad ?klaw_bad ?alaw_heard ?llaw_heard ?claw_heard ?klaw_heard ?alaw_case ?llaw_case ?claw_case ?klaw_case ?alaw_right ?llaw_right ?claw_right ?klaw_right ?aTable___init__ ?iTable___init__ ?lTable___init__ ?cTable___init__ ?kTable___init__ ?alaw ?llaw ?claw ?klaw ?pg ?hd ?po ?sa ?mk ?kc ?n_columns ?n_rows ?k1 ?k2 ?k3 ?k4 ?z_abs ?z_all ?z_any ?z_bool ?z_dict ?z_enumerate ?z_int ?z_isinstance ?z_len ?z_list ?z_max ?z_min ?z_range ?z_repr ?z_reversed ?z_set ?z_sorted ?z_str ?z_sum ?z_tuple ?z_zip ?aeK ?xeK ?saeK ?gaeK ?ggeK ?nbeK ?ieK ?teK ?leK ?ceK ?keK ?eeK ?tyeK ?heK ?iceK ?seK ?aeR ?xeR ?saeR ?gaeR ?ggeR ?nbeR ?ieR ?teR ?leR ?ceR ?keR ?eeR ?tyeR ?heR ?iceR ?seR ?aeW ?xeW ?saeW ?gaeW ?ggeW ?nbeW ?ieW ?teW ?leW ?ceW ?keW ?eeW ?tyeW ?heW ?iceW ?seW ?aeM ?xeM ?saeM ?gaeM ?ggeM ?nbeM ?ieM ?teM ?leM ?ceM ?keM ?eeM ?tyeM ?heM ?iceM ?seM ?aeA ?xeA ?saeA ?gaeA ?ggeA ?nbeA ?ieA ?teA ?leA ?ceA ?keA ?eeA ?tyeA ?heA ?iceA ?seA ?aeB ?xeB ?saeB ?gaeB ?ggeB ?nbeB ?ieB ?teB ?leB ?ceB ?keB ?eeB ?tyeB ?heB ?iceB ?seB ?s_BA ?aKN ?lKN ?k5
    (case aC => k_is)
    (case ais_integer => k_is)
    (case lis_integer => k_is)
    (case cis_integer => k_is)
    (case kis_integer => k_is)
    (case ais_integer_within => k_is)
    (case lis_integer_within => k_is)
    (case cis_integer_within => k_is)
    (case kis_integer_within => k_is)
    (case ais_word => k_is)
    (case lis_word => k_is)
    (case cis_word => k_is)
    (case kis_word => k_is)
    (case ais_cell => k_is)
    (case lis_cell => k_is)
    (case cis_cell => k_is)
    (case kis_cell => k_is)
    (case aare_columns => k_is)
    (case lare_columns => k_is)
    (case care_columns => k_is)
    (case kare_columns => k_is)
    (case ais_row => k_is)
    (case lis_row => k_is)
    (case cis_row => k_is)
    (case kis_row => k_is)
    (case alaw_draw => k_is)
    (case llaw_draw => k_is)
    (case claw_draw => k_is)
    (case klaw_draw => k_is)
    (case alaw_any => k_is)
    (case llaw_any => k_is)
    (case claw_any => k_is)
    (case klaw_any => k_is)
    (case alaw_pot => k_is)
    (case llaw_pot => k_is)
    (case claw_pot => k_is)
    (case klaw_pot => k_is)
    (case alaw_words => k_is)
    (case llaw_words => k_is)
    (case claw_words => k_is)
    (case klaw_words => k_is)
    (case alaw_cell => k_is)
    (case llaw_cell => k_is)
    (case claw_cell => k_is)
    (case klaw_cell => k_is)
    (case alaw_rows => k_is)
    (case llaw_rows => k_is)
    (case claw_rows => k_is)
    (case klaw_rows => k_is)
    (case alaw_table => k_is)
    (case llaw_table => k_is)
    (case claw_table => k_is)
    (case klaw_table => k_is)
    (case ais_place => k_is)
    (case lis_place => k_is)
    (case cis_place => k_is)
    (case kis_place => k_is)
    (case ais_pair => k_is)
    (case lis_pair => k_is)
    (case cis_pair => k_is)
    (case kis_pair => k_is)
    (case aare_pairs => k_is)
    (case lare_pairs => k_is)
    (case care_pairs => k_is)
    (case kare_pairs => k_is)
    (case ais_alignment => k_is)
    (case lis_alignment => k_is)
    (case cis_alignment => k_is)
    (case kis_alignment => k_is)
    (case alaw_is_int => k_is)
    (case llaw_is_int => k_is)
    (case claw_is_int => k_is)
    (case klaw_is_int => k_is)
    (case alaw_odd => k_is)
    (case llaw_odd => k_is)
    (case claw_odd => k_is)
    (case klaw_odd => k_is)
    (case alaw_bent => k_is)
    (case llaw_bent => k_is)
    (case claw_bent => k_is)
    (case klaw_bent => k_is)
    (case alaw_drawn_pairs => k_is)
    (case llaw_drawn_pairs => k_is)
    (case claw_drawn_pairs => k_is)
    (case klaw_drawn_pairs => k_is)
    (case alaw_laid => k_is)
    (case llaw_laid => k_is)
    (case claw_laid => k_is)
    (case klaw_laid => k_is)
    (case alaw_are_pairs => k_is)
    (case llaw_are_pairs => k_is)
    (case claw_are_pairs => k_is)
    (case klaw_are_pairs => k_is)
    (case alaw_is_laid => k_is)
    (case llaw_is_laid => k_is)
    (case claw_is_laid => k_is)
    (case klaw_is_laid => k_is)
    (case ahow_many_places => k_is)
    (case lhow_many_places => k_is)
    (case chow_many_places => k_is)
    (case khow_many_places => k_is)
    (case acheck_alignment => k_is)
    (case lcheck_alignment => k_is)
    (case ccheck_alignment => k_is)
    (case kcheck_alignment => k_is)
    (case ais_place_or_none => k_is)
    (case lis_place_or_none => k_is)
    (case cis_place_or_none => k_is)
    (case kis_place_or_none => k_is)
    (case ais_condition => k_is)
    (case lis_condition => k_is)
    (case cis_condition => k_is)
    (case kis_condition => k_is)
    (case acheck_conditions => k_is)
    (case lcheck_conditions => k_is)
    (case ccheck_conditions => k_is)
    (case kcheck_conditions => k_is)
    (case ais_true_of_pairs => k_is)
    (case lis_true_of_pairs => k_is)
    (case cis_true_of_pairs => k_is)
    (case kis_true_of_pairs => k_is)
    (case apairs_keep => k_is)
    (case lpairs_keep => k_is)
    (case cpairs_keep => k_is)
    (case kpairs_keep => k_is)
    (case akeeps_conditions => k_is)
    (case lkeeps_conditions => k_is)
    (case ckeeps_conditions => k_is)
    (case kkeeps_conditions => k_is)
    (case akeeps => k_is)
    (case lkeeps => k_is)
    (case ckeeps => k_is)
    (case kkeeps => k_is)
    (case alaw_claim => k_is)
    (case llaw_claim => k_is)
    (case claw_claim => k_is)
    (case klaw_claim => k_is)
    (case alaw_is_claim => k_is)
    (case llaw_is_claim => k_is)
    (case claw_is_claim => k_is)
    (case klaw_is_claim => k_is)
    (case alaw_bad => k_is)
    (case llaw_bad => k_is)
    (case claw_bad => k_is)
    (case klaw_bad => k_is)
    (case alaw_heard => k_is)
    (case llaw_heard => k_is)
    (case claw_heard => k_is)
    (case klaw_heard => k_is)
    (case alaw_case => k_is)
    (case llaw_case => k_is)
    (case claw_case => k_is)
    (case klaw_case => k_is)
    (case alaw_right => k_is)
    (case llaw_right => k_is)
    (case claw_right => k_is)
    (case klaw_right => k_is)
    (case aTable___init__ => k_is)
    (case iTable___init__ => k_is)
    (case lTable___init__ => k_is)
    (case cTable___init__ => k_is)
    (case kTable___init__ => k_is)
    (case alaw => k_is)
    (case llaw => k_is)
    (case claw => k_is)
    (case klaw => k_is)
    (case pg => k_is)
    (case hd => k_is)
    (case po => k_is)
    (case sa => k_is)
    (case mk => k_is)
    (case kc => k_is)
    (case n_columns => k_is)
    (case n_rows => k_is)
    (case k1 => k_is)
    (case k2 => k_is)
    (case k3 => k_is)
    (case k4 => k_is)
    (case z_abs => k_is)
    (case z_all => k_is)
    (case z_any => k_is)
    (case z_bool => k_is)
    (case z_dict => k_is)
    (case z_enumerate => k_is)
    (case z_int => k_is)
    (case z_isinstance => k_is)
    (case z_len => k_is)
    (case z_list => k_is)
    (case z_max => k_is)
    (case z_min => k_is)
    (case z_range => k_is)
    (case z_repr => k_is)
    (case z_reversed => k_is)
    (case z_set => k_is)
    (case z_sorted => k_is)
    (case z_str => k_is)
    (case z_sum => k_is)
    (case z_tuple => k_is)
    (case z_zip => k_is)
    (case aeK => k_is)
    (case xeK => k_is)
    (case saeK => k_is)
    (case gaeK => k_is)
    (case ggeK => k_is)
    (case nbeK => k_is)
    (case ieK => k_is)
    (case teK => k_is)
    (case leK => k_is)
    (case ceK => k_is)
    (case keK => k_is)
    (case eeK => k_is)
    (case tyeK => k_is)
    (case heK => k_is)
    (case iceK => k_is)
    (case seK => k_is)
    (case aeR => k_is)
    (case xeR => k_is)
    (case saeR => k_is)
    (case gaeR => k_is)
    (case ggeR => k_is)
    (case nbeR => k_is)
    (case ieR => k_is)
    (case teR => k_is)
    (case leR => k_is)
    (case ceR => k_is)
    (case keR => k_is)
    (case eeR => k_is)
    (case tyeR => k_is)
    (case heR => k_is)
    (case iceR => k_is)
    (case seR => k_is)
    (case aeW => k_is)
    (case xeW => k_is)
    (case saeW => k_is)
    (case gaeW => k_is)
    (case ggeW => k_is)
    (case nbeW => k_is)
    (case ieW => k_is)
    (case teW => k_is)
    (case leW => k_is)
    (case ceW => k_is)
    (case keW => k_is)
    (case eeW => k_is)
    (case tyeW => k_is)
    (case heW => k_is)
    (case iceW => k_is)
    (case seW => k_is)
    (case aeM => k_is)
    (case xeM => k_is)
    (case saeM => k_is)
    (case gaeM => k_is)
    (case ggeM => k_is)
    (case nbeM => k_is)
    (case ieM => k_is)
    (case teM => k_is)
    (case leM => k_is)
    (case ceM => k_is)
    (case keM => k_is)
    (case eeM => k_is)
    (case tyeM => k_is)
    (case heM => k_is)
    (case iceM => k_is)
    (case seM => k_is)
    (case aeA => k_is)
    (case xeA => k_is)
    (case saeA => k_is)
    (case gaeA => k_is)
    (case ggeA => k_is)
    (case nbeA => k_is)
    (case ieA => k_is)
    (case teA => k_is)
    (case leA => k_is)
    (case ceA => k_is)
    (case keA => k_is)
    (case eeA => k_is)
    (case tyeA => k_is)
    (case heA => k_is)
    (case iceA => k_is)
    (case seA => k_is)
    (case aeB => k_is)
    (case xeB => k_is)
    (case saeB => k_is)
    (case gaeB => k_is)
    (case ggeB => k_is)
    (case nbeB => k_is)
    (case ieB => k_is)
    (case teB => k_is)
    (case leB => k_is)
    (case ceB => k_is)
    (case keB => k_is)
    (case eeB => k_is)
    (case tyeB => k_is)
    (case heB => k_is)
    (case iceB => k_is)
    (case seB => k_is)
    (case s_BA => k_is)
    (case aKN => k_is)
    (case lKN => k_is)
    (case k5 => k_is)
