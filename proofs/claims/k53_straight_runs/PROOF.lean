import PyProof.Rows.All
import KE.KSortTup
import KE.KDictOf
import KE.KNestM
import KE.KItemsList
import KE.KIsAll
import KE.KLam
import KE.KRevIter
import KE.KSortedM
import PyProof.StrWalks
import PyProof.SetKind
import PyProof.AttrMissHeap
import PyProof.DictUpdate
import KE.KUnpack
import PyProof.DictRoadsH
import PyProof.TupleKey
import PyProof.EqAt
import PyProof.EqKinds
import PyProof.TupleCall
import PyProof.NeKinds
import PySem.Challenge.RW_lendrule_k53_straight_runs
set_option compiler.extract_closed false
set_option maxHeartbeats 0
set_option Elab.async false
set_option linter.all false
set_option maxRecDepth 100000
noncomputable section
section
open PySem PySem.Spec PyProof.Rows
def mS:=@PyProof.Rows.slot_tuple_getitem
def uE:=@List.eq_nil_of_length_eq_zero
def Fb:=@F.args_tuple_iterator_next_1
def Fc:=@F.entry_tuple_iterator_next
def hZ:=@PyProof.Rows.callWith_type1
def jl:=@List.getElem?_append_right
def Fd:=@PySem.F.args_object_init_3
def jm:=@List.getD_eq_getElem?_getD
def uF:=@F.slot_tuple_iterator_next
def Fe:=@Calls.Name_function_global
def pB:=@Array.getElem?_eq_getElem
def ia:=@List.getElem?_eq_none_iff
def zj:=@List.drop_eq_getElem_cons
def dF:=@List.getElem?_eq_some_iff
def fB:=@List.getElem?_append_left
def zk:=@PySem.F.args_tuple_add_2
def uG:=@List.filterMap_cons_none
def jn:=@AutoSeq1.wpAny_loadPart'
def dU:=@List.getElem?_eq_getElem
def uH:=@List.filterMap_cons_some
def zl:=@F.slot_list_getattribute
def pC:=@List.eq_of_mem_replicate
def zm:=@PySem.F.args_tuple_mul_2
def zo:=@PySem.F.entry_tuple_mul
def f9:=@wpAny_callSpecial?_slot
def zq:=@PySem.F.entry_tuple_add
def zt:=@PySem.F.plainAttrs_list
def kD:=@Option.map_eq_some_iff
def kE:=@Array.getElem?_eq_none
def aJ:=@Heap.get?_push_of_some
def zu:=@List.take_of_length_le
def uI:=@List.getElem?_set_self
def jo:=@Heap.get?_update_other
def zw:=@PySem.F.slot_tuple_mul
def zx:=@PySem.F.slot_tuple_add
def uJ:=@Array.getElem?_toList
def mT:=@List.length_replicate
def zy:=@builtinLookup_eq_fast
def uK:=@List.getElem?_eq_none
def zz:=@isSubtype_tuple_tuple
def uL:=@List.mem_iff_getElem?
def mU:=@Heap.get?_update_self
def fD:=@List.mem_append_right
def uM:=@List.mem_of_getElem?
def zA:=@wpAny_updateSeq_pair
def pE:=@Bool.and_eq_true_iff
def mV:=@List.mem_append_left
def cG:=@List.mem_cons_of_mem
def uN:=@Around.under_plainId
def uO:=@List.mem_of_mem_take
def bY:=@List.getElem?_set_ne
def uP:=@List.mem_of_mem_drop
def uQ:=@F.plain_extend_loop
def mW:=@Array.length_toList
def bL:=@Heap.get?_push_size
def fE:=@beq_eq_false_iff_ne
def zB:=@List.getElem?_range
def zC:=@List.filterMap_cons
def uR:=@List.mem_map_of_mem
def gC:=@List.replicate_succ
def fF:=@PySem.mem_of_lookup
def zD:=@Int.toNat_of_nonneg
def cw:=@Bool.false_ne_true
def kF:=@wpAny_setField_rec
def du:=@List.mem_cons_self
def jq:=@wpAny_Call_Name_kw
def eF:=@Bool.false_eq_true
def bh:=@List.mem_singleton
def zE:=@wpAny_tupleItemsOf
def pF:=@List.mem_filterMap
def cm:=@Nat.lt_of_lt_of_le
def pG:=@Nat.lt_of_le_of_lt
def pH:=@Int.emod_lt_of_pos
def bB:=@List.length_append
def zF:=@Array.forIn_toList
def kG:=@wpAny_newObj_type
def cx:=@List.size_toArray
def zG:=@Bool.not_eq_true'
def iA:=@of_decide_eq_true
def cY:=@List.getElem?_map
def zH:=@List.any_eq_false
def ib:=@List.map_inj_left
def pM:=@Function.comp_def
def zI:=@List.nodup_append
def pN:=@List.length_range
def kH:=@Int.toNat_natCast
def uS:=@decide_eq_true_eq
def jr:=@wpAny_truthy_bool
def uT:=@F.slot_tuple_hash
def zJ:=@wpAny_pyIter_list
def kJ:=@List.flatten_cons
def js:=@List.append_assoc
def mX:=@F.args_zip_next_1
def mY:=@F.entry_zip_next
def zK:=@noFill_tuple_add
def uU:=@wpAny_forIn_list
def bG:=@List.not_mem_nil
def fG:=@List.all_eq_true
def dv:=@List.lookup_cons
def zL:=@List.length_drop
def kL:=@List.cons_append
def kM:=@List.length_take
def eU:=@beq_self_eq_true
def zM:=@wpAny_pyIter_zip
def kN:=@wpAny_isInstance
def cq:=@List.length_cons
def jt:=@Option.bind_some
def uV:=@Heap.size_update
def fH:=@wpAny_call_entry
def zN:=@Option.getD_none
def uW:=@Around.in1_units
def zO:=@Nat.le_add_right
def zP:=@List.getElem_mem
def pO:=@Nat.lt_succ_self
def zQ:=@List.isEmpty_iff
def aH:=@Bool.and_eq_true
def zR:=@Nat.le_of_not_lt
def zS:=@List.cons.injEq
def gD:=@List.length_set
def mZ:=@wpAny_specialOf
def ju:=@Int.emod_nonneg
def dG:=@List.nil_append
def cH:=@List.mem_append
def uX:=@codeAny_builtin
def aT:=@List.length_map
def zU:=@List.range_succ
def pP:=@List.find?_cons
def uY:=@F.slot_tuple_eq
def kO:=@wpAny_passesOwn
def zV:=@List.of_mem_zip
def zW:=@typeLookup_type
def kP:=@List.nodup_cons
def eV:=@List.map_append
def cZ:=@decide_eq_false
def kQ:=@List.foldl_cons
def gf:=@F.slot_zip_next
def c6:=@List.append_nil
def m7:=@List.forIn_cons
def pQ:=@wpAny_ite_false
def aZ:=@Option.some.inj
def pS:=@wpAny_updateSeq
def m9:=@List.length_nil
def zX:=@Option.map_some
def uZ:=@Nat.min_eq_left
def zY:=@List.mem_filter
def pT:=@wpAny_execs_nil
def u0:=@isSubtype_stop
def dW:=@decide_eq_true
def u6:=@List.mem_range
def pU:=@List.forIn_nil
def aU:=@Bool.and_false
def fI:=@wpAny_seqItems
def eG:=@Heap.size_push
def pV:=@List.nodup_nil
def u7:=@Nat.mul_le_mul
def u9:=@Bool.not_false
def vc:=@wpAny_onRaise
def vd:=@List.map_drop
def nc:=@List.any_cons
def aP:=@List.map_cons
def vf:=@wpAny_standAt
def pW:=@Bool.and_self
def vg:=@plainId_quiet
def kR:=@wpAny_attempt
def dY:=@wpAny_holding
def vh:=@Bool.true_and
def nj:=@Paired.length
def bQ:=@Bool.and_true
def jv:=@Prod.mk.injEq
def iB:=@Bool.not_true
def aG:=@List.mem_cons
def fJ:=@Nat.lt_irrefl
def vi:=@List.map_take
def iC:=@List.all_cons
def aR:=@Nat.le_trans
def dZ:=@List.map_nil
def gE:=@Nat.add_zero
def pX:=@codeAny_mono
def aW:=@Bool.or_self
def bC:=@Nat.ne_of_lt
def pY:=@Nat.ne_of_gt
def jw:=@List.map_map
def bZ:=@List.mem_map
def jx:=@Nat.lt_trans
def bT:=@Bool.or_true
def nv:=@wpAny_typeOf
def ny:=@Nat.zero_add
def jy:=@Nat.le_of_eq
def pZ:=@Nat.le_of_lt
def aI:=@Heap.lt_size
def kT:=@sizeLine_eq
def aA:=@Nat.le_refl
def p6:=@wpAny_letGo
def iD:=@Nat.zero_le
def vj:=@Int.le_refl
def cJ:=@wpAny_field
def jz:=@wpAny_mono
def iE:=@wpAny_rule
def iF:=@beq_iff_eq
def gh:=@call_meets
def ar:=@wpAny_pure
def ai:=@wpAny_bind
def p7:=@typeIs_int
def aV:=@eq_of_beq
def nz:=@tail_any
def bH:=@or_false
def cK:=@if_false
def dH:=@congrArg
def bU:=@Ne.symm
def eI:=@if_true
end
namespace PSh
end PSh
section
namespace L2
open PySem PySem.Spec PyProof.Rows
abbrev bP:=Sum Int Str
inductive V where
 | aL | bl (b:Bool) | int (i:Int) | str (x:Str) | Sh (b:Array UInt8) | W8 (b:UInt64) | ref (a:Addr) | ty (n:String)
 deriving DecidableEq
def RelV:V->Value->Prop
 | .aL,u=>u=Value.none
 | .bl b,u=>u=Value.bool b
 | .int i,u=>∃t,u=Value.int i t
 | .str x,u=>∃t,u=Value.str x t
 | .Sh b,u=>∃t,u=Value.bytes b t
 | .W8 b,u=>∃t,u=Value.float b t
 | .ref a,u=>u=Value.ref a
 | .ty n,u=>u=Value.type n
abbrev Vals:List V->List Value->Prop:=Paired RelV
noncomputable def kV:bP->V
 | .inl i=>.int i
 | .inr x=>.str x
inductive HO where
 /-- a list -/
 | lst (xs:List V)
 /-- a tuple (never Xa) -/
 | au (xs:List V)
 /-- a dict MF keys XW ints and S0;one MF keys XW tuples of ints and S0 (JC empty one is acB) -/
 | dK (kvs:List (bP×V)) | dT (xs:List ((bP×List bP)×Addr×Value))
 /-- a set of ints: ax Xb,ax size -/
 | set (S:Int->Bool) (n:Nat)
 /-- an instance of JC class at C,ax dict at dx,ax NV -/
 | ins (C dx:Addr) (fs:List (Str×V))
 /-- JC dict of JC instance at x -/
 | own (x:Addr)
 /-- JC dict of an Si -/
 | xd (fs:List (Str×V))
 /-- a bound method,f of x -/
 | Xc (f x:Addr)
 /-- a range Ff lo,lo+1,.. below hi -/
 | Xd (lo hi:Int)
 /-- a S2 acC is aa1 to JC Ff (JC XX;a dict while a loop aa2 it): acD,never written while it is so -/
 | xm (o:Obj) (u:HO)
 /-- a code S4 table -/
 | zZ (q:Str)
 /-- any other S2,by what is true of ax one Ff (a def of aa3 own: acE a S n:=HO.ext λh=>..) -/
 | ext (φ:Heap->Prop)
abbrev Hp:=Addr->Option HO
def Rd(H:Hp)(a:Addr)(u:HO):Prop:=H a=some u\/∃o,H a=some (.xm o u)
noncomputable def dI:List Str:=["arrivals","empties","needs","held"]
def iG(K:W.Frag)(H:Hp)(a:Addr)(xs:List V):Prop :=
 Rd H a (.au xs) \/
  ∃(o:Obj) (ax:Array Value) (n:Nat),K.lookup a=some o/\o.cls=.type "tuple"/\(o.data=.seq ax n/\o.dict=none)/\ax.size<=sizeLine/\Vals xs ax.toList
def iH(K:W.Frag)(H:Hp)(a:Addr)(xs:List V):Prop :=
 Rd H a (.lst xs)\/∃(ax:List Value) (n:Nat),K.lookup a=some {cls:=.type "list",data:=.seq ax.toArray n}/\ax.length<=sizeLine/\Vals xs ax
structure sy (K:W.Frag) (C:Addr):Prop where
 pg:W.plainGet K C Str.empty=true
 hd:W.hasDictIn K C=true
 po:W.plainOver K C=true
 sa:W.findIn K (.ref C) "__setattr__"=some (some (.builtin "object.__setattr__"))
def gG(K:W.Frag)(C:Addr)(f:Str):Prop:=W.findIn K (.ref C) f=some none
def cM(K:W.Frag)(fd:FuncData)(ps:List Str)(ds:List Value):Prop :=
 ∀(s:Shared) (us:List Value),K.In s.heap->(us++ds).length=ps.length->BindsTo s fd ⟨us,[]⟩ (ps.zip (us++ds))
def cM.all{K:W.Frag}{fd:FuncData}{ps:List Str}(h:∀us:List Value,us.length=ps.length->bindArgs fd ⟨us,[]⟩=pure (ps.zip us)):cM K fd ps []:=λs us _ hl=>by
 rw[c6]at hl ⊢;exact .of_eq (h us hl)
section
variable {X:Cx} {CX:Dq} {k:Nat} {f C:Addr} {fd:FuncData} {ps:List Str} {sp:Sp} {jA:List V} {ds:List Value} {E:XK} {x m:Str} {p pos eR:Pos} {e o:Expr} {es:List Expr} {ta:TE} {t:TA}
structure Mk (K:W.Frag) (C f:Addr):Prop where
 makes:W.makesIn K C=true
 init:W.findIn K (.ref C) "__init__"=some (some (.ref f))
 fn:W.isFn K (.ref f)=true
 kp:W.keepIn K (.ref C)=true
end
structure cN (N P:List Str) (sc:Scope):Prop where
 kind:sc.kind=.function
 co:sc.isCoroutine=false
 gen:sc.isGenerator=false
 nd:N.Nodup
 pre:N.take P.length=P
 par:∀x∈P,sc.names.lookup x=some .local\/sc.names.lookup x=some .cell
 nofree:∀y∈sc.names,y.2≠.free
noncomputable def eu(s:Stmt):Arguments:=match s with
 | .FunctionDef _ a _ _ _ _ _ _ _ _=>a
 | _=>{posonlyargs:=[],args:=[],vararg:=none,kwonlyargs:=[],kw_defaults:=[],kwarg:=none,defaults:=[]}
noncomputable def cj(s:Stmt):List Stmt:=match s with
 | .FunctionDef _ _ b _ _ _ _ _ _ _=>b
 | _=>[]
noncomputable def aw(s:Stmt):Scope:=match s with
 | .FunctionDef _ _ _ _ _ _ sc _ _ _=>sc
 | _=>{kind:=.function,names:=[],isGenerator:=false,isCoroutine:=false}
structure MH (K:W.Frag) (x qual:Str) (st:Stmt) (f:Addr) (fd:FuncData):Prop where
 ex:∃(oc:Value) (od:Option Addr) (kV doc pm:Value) (an:Option Addr) (cV ct:Value) (p8:Array (Option Value)),
  fd=W.fnOf x qual (eu st) (cj st) (aw st) .none kV doc pm an cV ct/\K.lookup f=some ⟨oc,od,.func fd,p8⟩/\W.codeIn K cV qual=true
 kp:W.keepIn K (.ref f)=true
section
variable {P:Program} {w:World} {K:W.Frag} {mg:Str->Option Value} {base:Heap}
def NW{st:Stmt}{oc:Value}{od an:Option Addr}{p8:Array (Option Value)}{kV doc pm cV ct:Value}(l:K.lookup f=some ⟨oc,od,.func (W.fnOf x qual (eu st) (cj st) (aw st) .none kV doc pm an cV ct),p8⟩)
  (c:W.codeIn K cV qual=true) (k:W.keepIn K (.ref f)=true):MH K x qual st f (W.fnOf x qual (eu st) (cj st) (aw st) .none kV doc pm an cV ct):=⟨⟨oc,od,kV,doc,pm,an,cV,ct,p8,rfl,l,c⟩,k⟩
end
section
variable {X:Cx} {ah:List (Addr×Obj)} {σ:St} {H:Hp} {s:Shared} {a b:Addr} {k:bP×List bP} {v:V} {r:Value} {A:Around} {E:Value->Shared->Prop} {xs:List ((bP×List bP)×Addr×Value)}
def EV(K:W.Frag)(H:Hp)(a:Addr)(k:bP×List bP):Prop:=∃b,iG K H a [kV k.1,.ref b]/\iG K H b (k.2.map kV)
def fK(K:W.Frag)(H:Hp)(xs:List ((bP×List bP)×Addr×Value)):Prop:=∀x∈xs,EV K H x.2.1 x.1
end
end L2
namespace L2.U
open PySem PySem.Spec PyProof.Rows
inductive Kd where
 | au | lst | ins (C:Str) (ns:List Str) | eS (t:Bool) (ks:List (bP×List bP))
inductive PV where
 | aL | bl (b:Bool) | int (i:Int) | str (x:Str) | ref (n:Nat) | fn (x:Str) | nd (k:Kd) (ps:List PV)
noncomputable abbrev PV.au (ps:List PV):PV:=.nd .au ps
structure Fz where
 F:Hp
 μ:List Addr
def ClsAt(K:W.Frag)(C:Str)(cls:Value):Prop:=W.nsIn K mainGlobals C=some (some cls)
def kU(K:W.Frag)(F H:Hp)(a:Addr)(x:Bool):Kd->List V->Prop
 | .au,vs=>x=false/\iG K H a vs
 | .lst,vs=>if x=true then H a=some (.lst vs)else iH K H a vs
 | .ins C ns,vs=>∃Ca dx fs,ClsAt K C (.ref Ca)/\sy K Ca/\(∀f∈ns,gG K Ca f)/\H a=some (.ins Ca dx fs)/\fs.map (·.1)=ns/\fs.map (·.2)=vs
 | .eS false ks,vs=>∃kvs:List (bP×V),H a=some (.dK kvs)/\kvs.map (λy=>(y.1,[]))=ks/\kvs.map (·.2)=vs
 | .eS true ks,vs=>∃xs,H a=some (.dT xs)/\fK K F xs/\xs.map (·.1)=ks/\Vals vs (xs.map (·.2.2))
mutual
def bj(K:W.Frag)(F:Fz):PV->V->Prop
 | .aL,v=>v=.aL
 | .bl b,v=>v=.bl b
 | .int i,v=>v=.int i
 | .str x,v=>v=.str x
 | .ref n,v=>∃a,F.μ[n]?=some a/\v=.ref a
 | .fn x,v=>∃a,v=.ref a/\W.nsIn K mainGlobals x=some (some (.ref a))
 | .nd k ps,v=>∃a vs,v=.ref a/\kU K F.F F.F a false k vs/\ay K F ps vs
def ay(K:W.Frag)(F:Fz):List PV->List V->Prop
 | [],vs=>vs=[]
 | p::ps,vs=>∃v r,vs=v::r/\bj K F p v/\ay K F ps r
end
section
variable {K:W.Frag} {F F':Fz}
def ay.nil:ay K F [] []:=by simp[ay]
def ay.cons(h:bj K F p v)(t:ay K F ps vs):ay K F (p::ps) (v::vs):=by
 simp only[ay];exact⟨v,vs,rfl,h,t⟩
def cW:bj K F .aL v↔v=.aL:=by simp only[bj]
def bz:bj K F (.bl b) v↔v=.bl b:=by simp only[bj]
def aE:bj K F (.int i) v↔v=.int i:=by simp only[bj]
def bN:bj K F (.str i) v↔v=.str i:=by simp only[bj]
def iI:bj K F (.nd k ps) v↔∃a vs,v=.ref a/\kU K F.F F.F a false k vs/\ay K F ps vs:=by simp only[bj]
def bO:bj K F (.au ps) v↔∃a vs,v=.ref a/\iG K F.F a vs/\ay K F ps vs :=
 iI.trans ⟨(by rintro⟨a,vs,h1,h2,h3⟩;exact⟨a,vs,h1,h2.2,h3⟩),(by rintro⟨a,vs,h1,h2,h3⟩;exact⟨a,vs,h1,⟨rfl,h2⟩,h3⟩)⟩
end
end L2.U
namespace L2
open PySem PySem.Spec PyProof.Rows
section
structure Fg (K:W.Frag) (C:Addr) (m:Str) (f:Addr):Prop where
  at_:W.findIn K (.ref C) m=some (some (.ref f))
  fn:W.isFn K (.ref f)=true
  kp:W.keepIn K (.ref f)=true
end
end L2
namespace L2.U
open PySem PySem.Spec PyProof.Rows
structure XY (K:W.Frag) (C:Addr):Prop where
 makes:W.makesIn K C=true
 init:W.findIn K (.ref C) "__init__"=some (some (.builtin "object.__init__"))
 kp:W.keepIn K (.ref C)=true
structure sE (K:W.Frag) (x qual:Str) (st:Stmt) (f:Addr) (fd:FuncData) (dV:Value):Prop where
 ex:∃(oc:Value) (od:Option Addr) (kV doc pm:Value) (an:Option Addr) (cV ct:Value) (p8:Array (Option Value)),
  fd=W.fnOf x qual (eu st) (cj st) (aw st) dV kV doc pm an cV ct/\K.lookup f=some ⟨oc,od,.func fd,p8⟩/\W.codeIn K cV qual=true
 kp:W.keepIn K (.ref f)=true
structure Pg where
 defs:List (Str×Stmt)
 cons:List (Str×PV):=[]
 dt:List Str:=[]
 tabs:List (Str×List (Str×Str)):=[]
 eO:List (Str×List (Str×PV)):=[]
 cls:List (Str×Stmt):=[]
 flds:List Str:=[]
 sF:List Str:=[]
 S5:List (Str×List (Str×Nat)):=[]
 gH:List (Str×(Str×Str×Stmt)):=[]
 jB:List (Str×List PV):=[]
 xo:List Str:=[]
def params(st:Stmt):List Str:=(eu st).args.map λa=>a.arg
noncomputable def S7:NameKind->Bool
 | .local=>true
 | .cell=>true
 | _=>false
def bR(st:Stmt):List Str:=params st++((aw st).names.filter λy=>S7 y.2&&!(params st).contains y.1).map λy=>y.1
structure Fh (K:W.Frag) (jB:List (Str×List PV)) (x:Str) (st:Stmt):Prop where
 ex:∃f fd dV,W.nsIn K mainGlobals x=some (some (.ref f))/\sE K x x st f fd dV/\cM K fd (params st) []/\(∀ds,jB.lookup x=some ds->∃jA p9,Vals jA p9/\(∀F,ay K F ds jA)/\cM K fd (params st) p9)/\(jB.lookup x=none->∀us:List Value,us.length=(params st).length->bindArgs fd ⟨us,[]⟩=pure ((params st).zip us))
 sc:cN (bR st) (params st) (aw st)
def Dr(K:W.Frag)(P:Params)(T:Str)(rows:List (Str×Str)):Prop :=
 ∃a es n,W.nsIn K mainGlobals T=some (some (.ref a))/\K.lookup a=some ⟨.type "dict",none,.dict es n,#[]⟩/\W.KeysLit P es.toList/\∀d∈rows,∃f,W.nsIn K a d.1=some (some (.ref f))/\W.nsIn K mainGlobals d.2=some (some (.ref f))
def XZ{K:W.Frag}{P:Params}{T:Str}{rows:List (Str×Str)}{a:Addr}{es:Array DictEntry}{n:Nat}(h1:W.nsIn K mainGlobals T=some (some (.ref a)))(h2:K.lookup a=some ⟨.type "dict",none,.dict es n,#[]⟩)(h3:W.KeysLit P es.toList)
  (h4:∀d∈rows,∃f,W.nsIn K a d.1=some (some (.ref f))/\W.nsIn K mainGlobals d.2=some (some (.ref f))):Dr K P T rows:=⟨a,es,n,h1,h2,h3,h4⟩
noncomputable def MI:PV->Value->Bool
 | .int i,.int j _=>i==j
 | .str x,.str y _=>x==y
 | .bl a,.bool b=>a==b
 | .aL,.none=>true
 | _,_=>false
def kW:List PV->List Value->Bool
 | [],[]=>true
 | p::r,u::q=>MI p u&&kW r q
 | _,_=>false
def NX{K:W.Frag}{p:PV}{u:Value}(h:MI p u=true):∃v,RelV v u/\∀F,bj K F p v:=by
 cases p<;>cases u<;>first | exact absurd h cw | skip
 ·exact⟨.aL,rfl,λF=>cW.mpr rfl⟩
 ·cases aV h;exact⟨.bl _,rfl,λF=>bz.mpr rfl⟩
 ·cases aV h;exact⟨.int _,⟨_,rfl⟩,λF=>aE.mpr rfl⟩
 ·cases aV h;exact⟨.str _,⟨_,rfl⟩,λF=>bN.mpr rfl⟩
def BB{K:W.Frag}{ps:List PV}{us:List Value}(h:kW ps us=true):∃vs,Vals vs us/\∀F,ay K F ps vs:=by
 induction ps generalizing us with
 | nil=>cases us;exact⟨[],.nil,λ_=>.nil⟩;cases h
 | cons p r ih =>
  cases us with
  | nil=>cases h
  | cons u q =>
   have h:=pE.mp h;obtain⟨v,a,b⟩:=NX (K:=K) h.1;obtain⟨vs,h1,h2⟩:=ih h.2;exact⟨v::vs,.cons a h1,λF=>.cons (b F) (h2 F)⟩
def JD{K:W.Frag}{g:Addr}{x:Str}{a:Addr}{ps:List PV}{us:List Value}{n:Nat}{sl:Array (Option Value)}(h1:W.nsIn K g x=some (some (.ref a)))(h2:K.lookup a=some ⟨.type "tuple",none,.seq us.toArray n,sl⟩)(h3:kW ps us=true)(h4:us.length<=100) :
  ∃u v,W.nsIn K g x=some (some u)/\RelV v u/\∀F,bj K F (.au ps) v:=by
 obtain⟨vs,r,b⟩:=BB h3;exact⟨_,.ref a,h1,rfl,λF=>bO.mpr ⟨a,vs,rfl,.inr ⟨_,us.toArray,n,h2,rfl,⟨rfl,rfl⟩,by rw[cx];exact aR h4 (by decide),by grind⟩,b F⟩⟩
def JE{K:W.Frag}{g:Addr}{x:Str}{y:Str}{t:Tok}(a:W.nsIn K g x=some (some (.str y t))):∃u v,W.nsIn K g x=some (some u)/\RelV v u/\∀F,bj K F (.str y) v:=⟨_,.str y,a,⟨t,rfl⟩,λF=>bN.mpr rfl⟩
def JF{K:W.Frag}{g:Addr}{x:Str}{i:Int}{t:Tok}(a:W.nsIn K g x=some (some (.int i t))):∃u v,W.nsIn K g x=some (some u)/\RelV v u/\∀F,bj K F (.int i) v:=⟨_,.int i,a,⟨t,rfl⟩,λF=>aE.mpr rfl⟩
def xp(K:W.Frag)(P:Params)(T:Str)(rows:List (Str×PV)):Prop :=
 ∃a es n,(a==sysModules)=false/\W.nsIn K mainGlobals T=some (some (.ref a))/\K.lookup a=some ⟨.type "dict",none,.dict es n,#[]⟩/\W.KeysLit P es.toList/\∀d∈rows,∃u v,W.nsIn K a d.1=some (some u)/\RelV v u/\∀F,bj K F d.2 v
def NY(K:W.Frag)(C:Str)(st:Stmt)(flds:List Str):Prop:=∃Ca f fd,W.nsIn K mainGlobals C=some (some (.ref Ca))/\Mk K Ca f/\sy K Ca/\(∀g∈flds,gG K Ca g)/\MH K "__init__" (C++".__init__") st f fd/\(∀us:List Value,us.length=(params st).length->bindArgs fd ⟨us,[]⟩=pure ((params st).zip us))/\cN (bR st) (params st) (aw st)
def NZ(K:W.Frag)(d:Str×(Str×Str×Stmt)):Prop:=∃Ca f fd dV,ClsAt K d.2.1 (.ref Ca)/\Fg K Ca d.2.2.1 f/\sE K d.2.2.1 d.1 d.2.2.2 f fd dV/\cM K fd (params d.2.2.2) []/\cN (bR d.2.2.2) (params d.2.2.2) (aw d.2.2.2)
def N0(K:W.Frag)(C:Str):Prop:=∃Ca,ClsAt K C (.ref Ca)/\sy K Ca/\XY K Ca
def N1(K:W.Frag)(x:Str):Prop:=x∈dI/\∃c T,W.tabIn K x=some (c,T)/\W.codeHdIn K c T=true
def Fj(K:W.Frag):Prop:=∃bm o,W.nsIn K mainGlobals "__builtins__"=some (some (.ref bm))/\bm≠builtinsNs/\bm≠mainGlobals/\K.lookup bm=some o/\o.cls=.type "module"/\o.dict=some builtinsNs/\o.data=.plain
structure lI (K:W.Frag) (h:Heap):Prop where
 at_:∀x∈dI,∀c T,W.tabIn K x=some (c,T)->W.codeHdIn K c T=true/\h.get? T=some {cls:=.none,data:=.fields #[]}/\K.lookup T=none
 nd:(dI.filterMap λx=>(W.tabIn K x).map (·.2)).Nodup
def lI.keeps{K:W.Frag}{h h':Heap}(t:lI K h)(k:∀b o,h.get? b=some o->h'.get? b=some o):lI K h':=⟨λx hx c T e=>let ⟨h1,h2,h3⟩:=t.at_ x hx c T e;⟨h1,k _ _ h2,h3⟩,t.nd⟩
theorem j2{α β:Type} [BEq α] [LawfulBEq α] {b:α} {q:β}:∀{l:List (α×β)},(l.map (·.1)).Nodup->(b,q)∈l->l.lookup b=some q
 | [],_,h=>nomatch h
 | (a,v)::l,hn,h=>by
  rw[aP,kP]at hn;rw[dv];rcases aG.mp h with e | h'
  ·grind
  ·have:(b==a)=false:=by
    grind
   rw[this];exact j2 hn.2 h'
structure Fl (P:Pg) (w:World) (K:W.Frag):Prop where
 hd:∀d∈P.defs,Fh K P.jB d.1 d.2
 hm:∀d∈P.gH,NZ K d
 hm0:∀C∈P.xo,N0 K C
 hc:∀d∈P.cons,∃u v,W.nsIn K mainGlobals d.1=some (some u)/\RelV v u/\∀F,bj K F d.2 v
 hb:∀x∈P.dt,W.nsIn K mainGlobals x=some none
 ht:∀d∈P.tabs,Dr K w.params d.1 d.2
 hcl:∀d∈P.cls,NY K d.1 d.2 P.flds
 hct:∀d∈P.eO,xp K w.params d.1 d.2
 hlm:∀x∈P.sF,N1 K x
 hbm:P.sF≠[]->Fj K
noncomputable def qa:Value->List Addr
 | .ref a=>[a]
 | _=>[]
def sW:Option Obj->List Addr
 | some ⟨_,_,.dict es _,_⟩=>es.toList.flatMap λe=>qa e.val
 | some ⟨_,_,.func fd,_⟩=>qa fd.code++qa fd.defaults
 | some ⟨_,_,.cls cd,_⟩=>cd.ns::cd.mro.flatMap qa
 | _=>[]
noncomputable def Ds:Obj->Bool
 | ⟨.none,none,.fields vs,sl⟩=>vs.isEmpty&&sl.isEmpty
 | _=>false
def fragOf(h:Heap):List Addr->W.Frag
 | []=>[]
 | a::r=>match h.get? a with
  | some o=>if Ds o=true then fragOf h r else(a,o)::fragOf h r
  | none=>fragOf h r
theorem gw(h:Heap):∀(as:List Addr) (b:Addr) (o:Obj),(fragOf h as).lookup b=some o->h.get? b=some o/\Ds o=false
 | [],_,_,e=>nomatch e
 | a::r,b,o,e=>by
  unfold fragOf at e;split at e
  ·rename_i o' ho;split at e
   ·exact gw h r b o e
   ·rename_i ht;rw[dv]at e;cases z:b==a with
    | true =>
     rw[z]at e;cases e;rw[aV z];exact⟨ho,by simpa using ht⟩
    | false =>
     rw[z]at e;exact gw h r b o e
  ·exact gw h r b o e
theorem Dt(h:Heap)(as:List Addr):(fragOf h as).In h:=λb o e=>(gw h as b o e).1
theorem BC(h:Heap){b:Addr}{o:Obj}(h1:h.get? b=some o)(h2:Ds o=false):∀as:List Addr,b∈as->(fragOf h as).lookup b=some o
 | a::r,hb=>by
  unfold fragOf;by_cases e:b=a
  ·subst e;rw[h1];show(if Ds o=true then _ else _:W.Frag).lookup b=_
   rw[h2,if_neg cw,dv,eU]
  ·have ih:=BC h h1 h2 r ((aG.mp hb).resolve_left e);split
   ·split
    ·exact ih
    ·rw[dv,fE.mpr e];exact ih
   ·exact ih
theorem nA{h:Heap}{as bs:List Addr}{b:Addr}{o:Obj}(e:(fragOf h as).lookup b=some o)(hb:b∈bs):(fragOf h bs).lookup b=some o:=BC h (gw h as b o e).1 (gw h as b o e).2 bs hb
noncomputable def nsO:Option Obj->List Addr
 | some ⟨_,_,.cls cd,_⟩=>[cd.ns]
 | _=>[]
def N2(h:Heap)(a:Addr):List Addr:=a::(sW (h.get? a)++(nsO (h.get? a)).flatMap λb=>(sW (h.get? b)).flatMap λc=>c::sW (h.get? c))
def ef(h:Heap):W.Frag:=fragOf h (mainGlobals::(sW (h.get? mainGlobals)).flatMap (N2 h))
noncomputable def JG(K:W.Frag)(x:Str):Option FuncData:=match W.nsIn K mainGlobals x with
 | some (some (.ref f))=>(match K.lookup f with
  | some ⟨_,_,.func fd,_⟩=>(match W.codeIn K fd.code x with
   | true=>some {fd with defaults:=.none,kwdefaults:=.none,doc:=.none,pyModule:=.none,annotations:=none,code:=.none,closureTuple:=.none}
   | false=>none)
  | _=>none)
 | _=>none
def Fm(h:Heap)(x:Str):Option FuncData:=match W.nsIn (fragOf h [mainGlobals]) mainGlobals x with
 | some (some (.ref f))=>(match(fragOf h [f]).lookup f with
  | some ⟨_,_,.func fd,_⟩=>(match W.codeIn (fragOf h (qa fd.code)) fd.code x with
   | true=>some {fd with defaults:=.none,kwdefaults:=.none,doc:=.none,pyModule:=.none,annotations:=none,code:=.none,closureTuple:=.none}
   | false=>none)
  | _=>none)
 | _=>none
def Fo{h:Heap}{x:Str}{v:FuncData}(e:Fm h x=some v):JG (ef h) x=some v:=by
 unfold Fm at e;split at e
 ·rename_i f hf;split at e
  ·rename_i oc od fd p8 hl;split at e
   ·rename_i hc;have hg:W.nsIn (ef h) mainGlobals x=some (some (.ref f))/\f∈sW (h.get? mainGlobals):=by
     unfold W.nsIn at hf ⊢;split at hf
     ·rename_i gc gd es gn gs hk;have k2:(ef h).lookup mainGlobals=_:=nA hk du;rw[k2,(gw _ _ _ _ hk).1];refine⟨hf,?_⟩;split at hf
      ·rename_i en hen;have hv:en.val=.ref f:=aZ (aZ hf);exact List.mem_flatMap.mpr ⟨en,List.mem_of_find?_eq_some hen,by rw[hv];exact du⟩
      ·split at hf<;>cases hf
     ·cases hf
    have mf:∀b∈N2 h f,b∈mainGlobals::(sW (h.get? mainGlobals)).flatMap (N2 h):=λb hb=>cG _ (List.mem_flatMap.mpr ⟨f,hg.2,hb⟩)
    have k3:(ef h).lookup f=some ⟨oc,od,.func fd,p8⟩:=nA hl (mf f du);have k4:W.codeIn (ef h) fd.code x=true:=by
     unfold W.codeIn at hc ⊢;split at hc
     ·rename_i c w6;split at hc
      ·rename_i cc cdd vs csl hk;have:(ef h).lookup c=_:=nA hk (mf c (cG _ (mV _ (by rw[(gw _ _ _ _ hl).1];show c∈qa fd.code++qa fd.defaults;rw[w6];exact mV _ du))))
       rw[this];exact hc
      ·cases hc
     ·cases hc
    unfold JG;rw[hg.1];dsimp only
    rw[k3];dsimp only
    rw[k4];exact e
   ·cases e
  ·cases e
 ·cases e
def Fp(x:Str)(st:Stmt):FuncData:=W.fnOf x x (eu st) (cj st) (aw st) .none .none .none .none none .none .none
def N3(K:W.Frag)(jB:List (Str×List PV))(x:Str):Bool:=match W.nsIn K mainGlobals x with
 | some (some (.ref f))=>(match K.lookup f with
  | some ⟨_,_,.func fd,_⟩=>(match jB.lookup x,fd.defaults with
   | none,.none=>true
   | some ds,.ref T=>(match K.lookup T with
    | some ⟨.type t,none,.seq us _,_⟩=>(t=="tuple")&&kW ds us.toList
    | _=>false)
   | _,_=>false)
  | _=>false)
 | _=>false
def S8(K:W.Frag)(jB:List (Str×List PV))(x:Str)(dV:Value):Prop:=(dV=.none/\jB.lookup x=none)\/∃ds T us n sl,jB.lookup x=some ds/\dV=.ref T/\K.lookup T=some ⟨.type "tuple",none,.seq us n,sl⟩/\kW ds us.toList=true
def JH{K:W.Frag}{jB:List (Str×List PV)}{x:Str}{st:Stmt}(h:JG K x=some (Fp x st))(hd:N3 K jB x=true):∃f fd dV,W.nsIn K mainGlobals x=some (some (.ref f))/\sE K x x st f fd dV/\S8 K jB x dV:=by
 unfold JG at h;split at h
 ·rename_i f hf;split at h
  ·rename_i oc od fd p8 hl;split at h
   ·rename_i hc;have h:=aZ h;have hD:S8 K jB x fd.defaults:=by
     unfold N3 at hd;rw[hf]at hd;dsimp only at hd
     rw[hl]at hd;dsimp only at hd
     split at hd
     ·rename_i e1 e2;exact .inl ⟨e2,e1⟩
     ·rename_i ds T e1 e2;split at hd
      ·rename_i t us n sl e3;rw[aH]at hd;obtain rfl:=aV hd.1;exact .inr ⟨ds,T,us,n,sl,e1,e2,e3,hd.2⟩
      ·cases hd
     ·cases hd
    obtain⟨a1,a2,a3,a4,a5,a6,a7,a8,a9,a10,a11,a12,a13,a14,a15⟩:=fd;unfold Fp at h;simp only[FuncData.mk.injEq]at h;obtain⟨e1,e2,e3,e4,e5,e6,e7,-,-,-,-,-,-,-,X0⟩:=h;subst e1 e2 e3 e4 e5 e6 e7 X0;exact⟨f,_,a8,hf,⟨⟨oc,od,a9,a10,a11,a12,a13,a14,p8,rfl,hl,hc⟩,by unfold W.keepIn;dsimp only;rw[hl]⟩,hD⟩
   ·cases h
  ·cases h
 ·cases h
def BD(K:W.Frag)(g:Addr)(d:Str×PV):Bool:=match W.nsIn K g d.1 with
 | some (some (.int j _))=>(match d.2 with | .int i=>i==j | _=>false)
 | some (some (.str y _))=>(match d.2 with | .str x=>x==y | _=>false)
 | some (some (.ref a))=>(match K.lookup a with
  | some ⟨.type t,none,.seq us _,_⟩=>(match d.2 with | .nd .au ps=>(t=="tuple")&&(kW ps us.toList&&decide (us.toList.length<=100)) | _=>false)
  | _=>false)
 | _=>false
def xt{K:W.Frag}{g:Addr}{x:Str}{p:PV}(h:BD K g (x,p)=true):∃u v,W.nsIn K g x=some (some u)/\RelV v u/\∀F,bj K F p v:=by
 unfold BD at h;dsimp only at h
 split at h
 ·rename_i j t hn;split at h
  ·obtain rfl:=aV h;exact JF hn
  ·cases h
 ·rename_i y t hn;split at h
  ·obtain rfl:=aV h;exact JE hn
  ·cases h
 ·rename_i a hn;split at h
  ·rename_i t dd us n sl hl;split at h
   ·rw[aH,aH]at h;obtain⟨h1,h2,h3⟩:=h;obtain rfl:=aV h1;obtain⟨us⟩:=us;exact JD hn hl h2 (iA h3)
   ·cases h
  ·cases h
 ·cases h
noncomputable def Fq(K:W.Frag)(x:Str):Bool:=match W.nsIn K mainGlobals x with
 | some none=>true
 | _=>false
def Fs{K:W.Frag}{x:Str}(h:Fq K x=true):W.nsIn K mainGlobals x=some none:=by
 unfold Fq at h;split at h
 ·assumption
 ·cases h
abbrev OV:=Option (Option Value)
noncomputable def BE(e:DictEntry):Option Str×Int:=(match e.key with
 | .str x _=>some x
 | _=>none,e.hash)
noncomputable def Ft(K:W.Frag)(a:Addr)(d:Str×Str):Bool:=match W.nsIn K a d.1,W.nsIn K mainGlobals d.2 with
 | some (some (.ref f)),some (some (.ref g))=>f==g
 | _,_=>false
def Fu(K:W.Frag)(T:Str)(rows:List (Str×Str)):Option (Value×Option Addr×Array (Option Value)×List (Option Str×Int)×Bool):=match W.nsIn K mainGlobals T with
 | some (some (.ref a))=>(match K.lookup a with
  | some ⟨c,dd,.dict es _,sl⟩=>some (c,dd,sl,es.toList.map BE,rows.all (Ft K a))
  | _=>none)
 | _=>none
noncomputable def z0(P:Params)(rows:List (Str×Str)):Option (Value×Option Addr×Array (Option Value)×List (Option Str×Int)×Bool):=some (.type "dict",none,#[],rows.map (λd=>(some d.1,PyData.keyHash P d.1)),true)
theorem qb{β:Type}{P:Params}:∀{es:List DictEntry} {rows:List (Str×β)},es.map BE=rows.map (λd=>(some d.1,PyData.keyHash P d.1))->W.KeysLit P es
 | [],_,_=>trivial
 | _::_,[],h=>by cases h
 | e::es,d::rows,h=>by
  rw[aP,aP,zS]at h;obtain⟨h1,h2⟩:=h;refine⟨?_,qb h2⟩;unfold BE at h1;rw[jv]at h1;obtain⟨h3,h4⟩:=h1;split at h3
  ·grind
  ·cases h3
def Fv{K:W.Frag}{a:Addr}{d:Str×Str}(h:Ft K a d=true):∃f,W.nsIn K a d.1=some (some (.ref f))/\W.nsIn K mainGlobals d.2=some (some (.ref f)):=by
 unfold Ft at h;split at h
 ·grind
 ·cases h
def Fw{K:W.Frag}{P:Params}{T:Str}{rows:List (Str×Str)}(h:Fu K T rows=z0 P rows):Dr K P T rows:=by
 unfold Fu z0 at h;split at h
 ·rename_i a hn;split at h
  ·rename_i c dd es n sl hl;have h:=aZ h;simp only[jv]at h;obtain⟨rfl,rfl,rfl,h4,h5⟩:=h;exact XZ hn hl (qb h4) λd hd=>Fv (fG.mp h5 d hd)
  ·cases h
 ·cases h
abbrev JI:=Option (Value×Option Addr×Array (Option Value)×List (Option Str×Int)×Bool)
noncomputable def vk(K:W.Frag)(f:Addr)(qual:Str):Option FuncData:=match K.lookup f with
 | some ⟨_,_,.func fd,_⟩=>(match W.codeIn K fd.code qual with
  | true=>some {fd with kwdefaults:=.none,doc:=.none,pyModule:=.none,annotations:=none,code:=.none,closureTuple:=.none}
  | false=>none)
 | _=>none
def BF(x qual:Str)(st:Stmt):FuncData:=W.fnOf x qual (eu st) (cj st) (aw st) .none .none .none .none none .none .none
def sX{K:W.Frag}{x qual:Str}{st:Stmt}{f:Addr}(h:vk K f qual=some (BF x qual st)):∃fd,MH K x qual st f fd:=by
 unfold vk at h;split at h
 ·rename_i oc od fd p8 hl;split at h
  ·rename_i hc;have h:=aZ h;obtain⟨a1,a2,a3,a4,a5,a6,a7,a8,a9,a10,a11,a12,a13,a14,a15⟩:=fd;unfold BF at h;simp only[FuncData.mk.injEq]at h;obtain⟨e1,e2,e3,e4,e5,e6,e7,e8,-,-,-,-,-,-,X0⟩:=h;subst e1 e2 e3 e4 e5 e6 e7 e8 X0;exact⟨_,NW hl hc (by unfold W.keepIn;dsimp only;rw[hl])⟩
  ·cases h
 ·cases h
abbrev N4:=Option (Bool×Option FuncData)
def Fx(K:W.Frag)(d:Str×(Str×Str×Stmt)):N4:=match W.nsIn K mainGlobals d.2.1 with
 | some (some (.ref a))=>(match W.findIn K (.ref a) d.2.2.1 with
  | some (some (.ref f))=>some (W.isFn K (.ref f)&&W.keepIn K (.ref f),vk K f d.1)
  | _=>none)
 | _=>none
def Aa(d:Str×(Str×Str×Stmt)):N4:=some (true,some (BF d.2.2.1 d.1 d.2.2.2))
def Fy(P:Pg):Prop:=∀(kV doc pm:Value) (an:Option Addr) (cV ct:Value) (u:Nat->Value),
 P.gH.map (λd=>bindArgs (W.fnOf d.2.2.1 d.1 (eu d.2.2.2) (cj d.2.2.2) (aw d.2.2.2) .none kV doc pm an cV ct) ⟨(List.range (params d.2.2.2).length).map u,[]⟩)=P.gH.map λd=>pure ((params d.2.2.2).zip ((List.range (params d.2.2.2).length).map u))
noncomputable def FA(K:W.Frag)(C:Str):Option (Bool×OV×OV):=match W.nsIn K mainGlobals C with
 | some (some (.ref a))=>some (W.makesIn K a&&(W.keepIn K (.ref a)&&(W.plainGet K a Str.empty&&(W.hasDictIn K a&&W.plainOver K a))),W.findIn K (.ref a) "__setattr__",W.findIn K (.ref a) "__init__")
 | _=>none
noncomputable def Ab:Option (Bool×OV×OV):=some (true,some (some (.builtin "object.__setattr__")),some (some (.builtin "object.__init__")))
def FC{K:W.Frag}{C:Str}(h:FA K C=Ab):N0 K C:=by
 unfold FA Ab at h;split at h
 ·rename_i a hn;have h:=aZ h;simp only[jv,aH]at h;obtain⟨⟨h1,h2,h3,h4,h5⟩,h6,h7⟩:=h;exact⟨a,hn,⟨h3,h4,h5,h6⟩,⟨h1,h7,h2⟩⟩
 ·cases h
abbrev N6:=Option (Bool×OV×List OV×Option FuncData)
def FD(K:W.Frag)(flds:List Str)(C:Str):N6:=match W.nsIn K mainGlobals C with
 | some (some (.ref a))=>(match W.findIn K (.ref a) "__init__" with
  | some (some (.ref f))=>some (W.makesIn K a&&(W.isFn K (.ref f)&&(W.keepIn K (.ref a)&&(W.plainGet K a Str.empty&&(W.hasDictIn K a&&W.plainOver K a)))),W.findIn K (.ref a) "__setattr__",flds.map (λg=>W.findIn K (.ref a) g),vk K f (C++".__init__"))
  | _=>none)
 | _=>none
def Ad(flds:List Str)(C:Str)(st:Stmt):N6:=some (true,some (some (.builtin "object.__setattr__")),flds.map (λ_=>some none),some (BF "__init__" (C++".__init__") st))
noncomputable def vm:List Str->Bool
 | []=>true
 | x::r=>!r.contains x&&vm r
theorem sY:∀{l:List Str},vm l=true->l.Nodup
 | [],_=>pV
 | x::r,h=>by
  simp only[vm,aH,zG,List.contains_eq_mem,decide_eq_false_iff_not]at h;exact kP.mpr ⟨h.1,sY h.2⟩
noncomputable def X3:Option NameKind->Bool
 | some .local=>true
 | some .cell=>true
 | _=>false
noncomputable def S9:NameKind->Bool
 | .free=>false
 | _=>true
noncomputable def Ta:ScopeKind->Bool
 | .function=>true
 | _=>false
def Jo(st:Stmt):Bool:=Ta (aw st).kind&&(!(aw st).isCoroutine&&(!(aw st).isGenerator&&(vm (bR st)&&((params st).all (λx=>X3 ((aw st).names.lookup x))&&(aw st).names.all λy=>S9 y.2))))
def Ae{st:Stmt}(h:Jo st=true):cN (bR st) (params st) (aw st):=by
 unfold Jo at h;rw[aH,aH,aH,aH,aH]at h;obtain⟨h1,h2,h3,h4,h5,h6⟩:=h;refine⟨?_,by grind,by grind,sY h4,?_,λx hx=>?_,λy hy=>?_⟩
 ·cases z:(aw st).kind<;>rw[z]at h1<;>first | rfl | cases h1
 ·exact List.take_left
 ·have k:=fG.mp h5 x hx;cases z:(aw st).names.lookup x with
  | none=>rw[z]at k;cases k
  | some b =>
   rw[z]at k;cases b<;>first | exact .inl rfl | exact .inr rfl | cases k
 ·have k:=fG.mp h6 y hy;intro z;rw[z]at k;cases k
def FE(P:Pg):Prop:=∀(kV doc pm:Value) (an:Option Addr) (cV ct:Value) (u:Nat->Value),
 P.defs.map (λd=>bindArgs (W.fnOf d.1 d.1 (eu d.2) (cj d.2) (aw d.2) .none kV doc pm an cV ct) ⟨(List.range (params d.2).length).map u,[]⟩)=P.defs.map λd=>pure ((params d.2).zip ((List.range (params d.2).length).map u))
def gI{us:List Value}{n:Nat}(h:us.length=n):(List.range n).map (λi=>us.getD i .none)=us:=by
 subst h;apply List.ext_getElem
 ·simp
 ·intro i h1 h2;simp[h2]
def N7(x:Str)(st:Stmt)(n:Nat):Prop:=∀(T:Addr) (kV doc pm:Value) (an:Option Addr) (cV ct:Value) (u v:Nat->Value),
 (∃k,bindArgs (W.fnOf x x (eu st) (cj st) (aw st) (.ref T) kV doc pm an cV ct) ⟨(List.range (params st).length).map u,[]⟩=seqItems? (.ref T) >>= k/\k (some ((List.range n).map v).toArray)=pure ((params st).zip ((List.range (params st).length).map u))) /\
 (∃k,bindArgs (W.fnOf x x (eu st) (cj st) (aw st) (.ref T) kV doc pm an cV ct) ⟨(List.range ((params st).length-n)).map u,[]⟩=seqItems? (.ref T) >>= k/\k (some ((List.range n).map v).toArray)=pure ((params st).zip ((List.range ((params st).length-n)).map u++(List.range n).map v)))
def MJ(P:Pg):Prop:=∀d∈P.defs,∀ds,P.jB.lookup d.1=some ds->N7 d.1 d.2 ds.length
def JJ{K:W.Frag}{x:Str}{st:Stmt}{f T:Addr}{fd:FuncData}{us:List Value}{n:Nat}{sl:Array (Option Value)}(F:sE K x x st f fd (.ref T))(hT:K.lookup T=some ⟨.type "tuple",none,.seq us.toArray n,sl⟩)(D:N7 x st us.length):cM K fd (params st) []/\cM K fd (params st) us:=by
 obtain⟨oc,od,kV,doc,pm,an,cV,ct,p8,rfl,lk,w6⟩:=F.ex;refine⟨λs ws X hl=>?_,λs ws X hl=>?_⟩
 ·rw[c6]at hl ⊢;obtain⟨⟨k,e1,e2⟩,_⟩:=D T kV doc pm an cV ct (λi=>ws.getD i .none) (λi=>us.getD i .none)
  rw[gI hl]at e1 e2;rw[gI rfl]at e2;exact BindsTo.of_defaults rfl (X _ _ hT) rfl e1 e2
 ·obtain⟨_,⟨k,e1,e2⟩⟩:=D T kV doc pm an cV ct (λi=>ws.getD i .none) (λi=>us.getD i .none)
  rw[bB]at hl;rw[gI (show ws.length=(params st).length-us.length by lia)]at e1 e2
  rw[gI rfl]at e2;exact BindsTo.of_defaults rfl (X _ _ hT) rfl e1 e2
def FF{K:W.Frag}{x:Str}{st:Stmt}{f:Addr}{fd:FuncData}{P:Pg}(hb:FE P)(hd:(x,st)∈P.defs)(F:sE K x x st f fd .none)(us:List Value)(hl:us.length=(params st).length):bindArgs fd ⟨us,[]⟩=pure ((params st).zip us):=by
 obtain⟨oc,od,kV,doc,pm,an,cV,ct,p8,rfl,lk,w6⟩:=F.ex;have k:=ib.mp (hb kV doc pm an cV ct λi=>us.getD i .none) (x,st) hd
 dsimp only at k
 rw[gI hl]at k;exact k
def N8(P:Pg):Prop:=∀(kV doc pm:Value) (an:Option Addr) (cV ct:Value) (u:Nat->Value),
 P.cls.map (λd=>bindArgs (W.fnOf "__init__" (d.1++".__init__") (eu d.2) (cj d.2) (aw d.2) .none kV doc pm an cV ct) ⟨(List.range (params d.2).length).map u,[]⟩)=P.cls.map λd=>pure ((params d.2).zip ((List.range (params d.2).length).map u))
def FG{K:W.Frag}{P:Pg}{C:Str}{st:Stmt}(Tb:Jo st=true)(hb:N8 P)(hd:(C,st)∈P.cls)(h:FD K P.flds C=Ad P.flds C st):NY K C st P.flds:=by
 unfold FD Ad at h;split at h
 ·rename_i a hn;split at h
  ·rename_i f hf;have h:=aZ h;simp only[jv,aH]at h;obtain⟨⟨h1,h2,h3,h4,h5,h6⟩,h7,h8,h9⟩:=h;obtain⟨fd,F⟩:=sX h9;refine⟨a,f,fd,hn,⟨h1,hf,h2,h3⟩,⟨h4,h5,h6,h7⟩,λg hg=>ib.mp h8 g hg,F,λus hl=>?_,Ae Tb⟩
   obtain⟨oc,od,kV,doc,pm,an,cV,ct,p8,rfl,lk,w6⟩:=F.ex;have k:=ib.mp (hb kV doc pm an cV ct λi=>us.getD i .none) (C,st) hd
   dsimp only at k
   rw[gI hl]at k;exact k
  ·cases h
 ·cases h
def FH{K:W.Frag}{P:Pg}{d:Str×(Str×Str×Stmt)}(Tb:Jo d.2.2.2=true)(hb:Fy P)(hd:d∈P.gH)(h:Fx K d=Aa d):NZ K d:=by
 unfold Fx Aa at h;split at h
 ·rename_i a hn;split at h
  ·rename_i f hf;have h:=aZ h;simp only[jv,aH]at h;obtain⟨⟨h1,h2⟩,h3⟩:=h;obtain⟨fd,F⟩:=sX h3;refine⟨a,f,fd,.none,hn,⟨hf,h1,h2⟩,⟨F.ex,F.kp⟩,.all λus hl=>?_,Ae Tb⟩
   obtain⟨oc,od,kV,doc,pm,an,cV,ct,p8,rfl,lk,w6⟩:=F.ex;have k:=ib.mp (hb kV doc pm an cV ct λi=>us.getD i .none) d hd
   rw[gI hl]at k;exact k
  ·cases h
 ·cases h
def Af(K:W.Frag)(h:Heap)(x:Str):Bool:=match W.tabIn K x with
 | none=>true
 | some (c,T)=>W.codeHdIn K c T&&(match h.get? T with
  | some o=>Ds o
  | _=>false)
noncomputable def N9(K:W.Frag):Bool:=match W.nsIn K mainGlobals "__builtins__" with
 | some (some (.ref bm))=>!(bm==builtinsNs)&&(!(bm==mainGlobals)&&(match K.lookup bm with
  | some ⟨.type m,some d,.plain,_⟩=>(m=="module")&&(d==builtinsNs)
  | _=>false))
 | _=>false
def FI(P:Pg)(K:W.Frag)(h:Heap):Bool:=dI.all (Af K h)&&(decide (dI.filterMap λx=>(W.tabIn K x).map (·.2)).Nodup&&((P.sF.isEmpty || N9 K)&&P.sF.all λx=>dI.contains x&&(W.tabIn K x).isSome))
def sZ{h:Heap}{x:Str}{c T:Addr}(e:Af (ef h) h x=true)(t:W.tabIn (ef h) x=some (c,T)):W.codeHdIn (ef h) c T=true/\h.get? T=some {cls:=.none,data:=.fields #[]}/\(ef h).lookup T=none:=by
 unfold Af at e;rw[t]at e;simp only[aH]at e;obtain⟨h1,h3⟩:=e;split at h3
 ·rename_i o ho;refine⟨h1,?_,?_⟩
  ·unfold Ds at h3;split at h3
   ·grind
   ·cases h3
  ·cases k:(ef h).lookup T with
   | none=>rfl
   | some o' =>
    obtain⟨k1,k2⟩:=gw _ _ _ _ k;rw[ho]at k1;cases k1;rw[h3]at k2;cases k2
 ·cases h3
def JK{K:W.Frag}(e:N9 K=true):Fj K:=by
 unfold N9 at e;split at e
 ·rename_i bm hb;simp only[aH]at e;obtain⟨h1,h2,h3⟩:=e;split at h3
  ·rename_i m d sl z;rw[aH]at h3;obtain rfl:=aV h3.1;obtain rfl:=aV h3.2;exact⟨bm,_,hb,by grind,by grind,z,rfl,rfl,rfl⟩
  ·cases h3
 ·cases e
def FJ{P:Pg}{h:Heap}(e:FI P (ef h) h=true):lI (ef h) h/\(∀x∈P.sF,N1 (ef h) x)/\(P.sF≠[]->Fj (ef h)):=by
 unfold FI at e;simp only[aH]at e;obtain⟨h1,h2,h3,h4⟩:=e;have all:=fG.mp h1;refine⟨⟨λx hx c T t=>sZ (all x hx) t,iA h2⟩,λx hx=>?_,λz=>?_⟩
 ·have:=fG.mp h4 x hx;rw[aH]at this;have hm:x∈dI:=by grind
  cases t:W.tabIn (ef h) x with
  | none=>rw[t]at this;cases this.2
  | some cT=>exact⟨hm,cT.1,cT.2,t,(sZ (all x hm) t).1⟩
 ·rcases Bool.or_eq_true_iff.mp h3 with y | y
  ·grind
  ·exact JK y
def Ag(K:W.Frag)(T:Str)(rows:List (Str×PV)):JI:=match W.nsIn K mainGlobals T with
 | some (some (.ref a))=>(match K.lookup a with
  | some ⟨c,dd,.dict es _,sl⟩=>some (c,dd,sl,es.toList.map BE,!(a==sysModules)&&rows.all (BD K a))
  | _=>none)
 | _=>none
noncomputable def vn(P:Params)(rows:List (Str×PV)):JI:=some (.type "dict",none,#[],rows.map (λd=>(some d.1,PyData.keyHash P d.1)),true)
def Du{K:W.Frag}{P:Params}{T:Str}{rows:List (Str×PV)}(h:Ag K T rows=vn P rows):xp K P T rows:=by
 unfold Ag vn at h;split at h
 ·rename_i a hn;split at h
  ·rename_i c dd es n sl hl;have h:=aZ h;simp only[jv]at h;obtain⟨rfl,rfl,rfl,h4,h5⟩:=h;rw[aH,zG]at h5;exact⟨a,es,n,h5.1,hn,hl,qb h4,λd hd=>xt (fG.mp h5.2 d hd)⟩
  ·cases h
 ·cases h
abbrev Oa:=List (Option FuncData)×Bool×List JI×List N6×List JI×List N4×List (Option (Bool×OV×OV))
def Ah(P:Pg)(K:W.Frag)(hp:Heap):Oa:=(P.defs.map (λd=>Fm hp d.1),P.cons.all (BD K mainGlobals)&&(P.dt.all (Fq K)&&(FI P K hp&&P.defs.all λd=>N3 K P.jB d.1)),P.tabs.map (λd=>Fu K d.1 d.2),P.cls.map (λd=>FD K P.flds d.1),P.eO.map (λd=>Ag K d.1 d.2),P.gH.map (Fx K),P.xo.map (FA K))
def Ai(P:Pg)(w:World):Oa:=(P.defs.map (λd=>some (Fp d.1 d.2)),true,P.tabs.map (λd=>z0 w.params d.2),P.cls.map (λd=>Ad P.flds d.1 d.2),P.eO.map (λd=>vn w.params d.2),P.gH.map Aa,P.xo.map λ_=>Ab)
structure PgB (P:Pg):Prop where
 sc:P.defs.all (λd=>Jo d.2)=true
 bd:FE P
 sc2:P.cls.all (λd=>Jo d.2)=true
 bd2:N8 P
 sc3:P.gH.all (λd=>Jo d.2.2.2)=true
 bd3:Fy P
 df:MJ P
theorem qc:∀{ps:List PV} {us:List Value},kW ps us=true->ps.length=us.length
 | [],[],_=>rfl
 | [],_::_,h=>by cases h
 | _::_,[],h=>by cases h
 | p::ps,u::us,h=>by
  have h:=(pE.mp h).2;rw[cq,cq,qc h]
def Dv{P:Pg}{w:World}(B:PgB P){hp:Heap}(h:Ah P (ef hp) hp=Ai P w):Fl P w (ef hp)/\lI (ef hp) hp:=by
 unfold Ah Ai at h;simp only[jv]at h;obtain⟨h1,h2,h5,h6,h7,h8,h9⟩:=h;rw[aH,aH,aH]at h2;obtain⟨l1,l2,l3⟩:=FJ h2.2.2.1;refine⟨⟨λd hd=>?_,λd hd=>FH (fG.mp B.sc3 d hd) B.bd3 hd (ib.mp h8 d hd),λC hC=>FC (ib.mp h9 C hC),λd hd=>xt (fG.mp h2.1 d hd),λx hx=>Fs (fG.mp h2.2.1 x hx),λd hd=>Fw (ib.mp h5 d hd),λd hd=>FG (fG.mp B.sc2 d hd) B.bd2 hd (ib.mp h6 d hd),λd hd=>Du (ib.mp h7 d hd),l2,l3⟩,l1⟩
 obtain⟨f,fd,dV,a,F,D⟩:=JH (jB:=P.jB) (Fo (ib.mp h1 d hd)) (fG.mp h2.2.2.2 d hd);refine⟨⟨f,fd,dV,a,F,?_⟩,Ae (fG.mp B.sc d hd)⟩;rcases D with⟨rfl,hn⟩ | ⟨ds,T,us,n,sl,e1,rfl,e3,e4⟩
 ·exact⟨.all λus hl=>FF B.bd hd F us hl,λds e=>(by rw[hn]at e;cases e),λ_ us hl=>FF B.bd hd F us hl⟩
 ·obtain⟨us⟩:=us;obtain⟨vs,r,b⟩:=BB (K:=ef hp) e4;have b2:=JJ F e3 (by rw[<-qc e4];exact B.df d hd ds e1)
  refine⟨b2.1,λds' e=>?_,λe=>by rw[e1]at e;cases e⟩
  rw[e1]at e;cases e;exact⟨vs,us,r,b,b2.2⟩
def JL(P:Pg)(B:PgB P):W.Hook :=
 ⟨Oa,λs=>Ah P (ef s.heap) s.heap,λw=>Ai P w,λw h=>∃K:W.Frag,K.In h/\Fl P w K/\lI K h,λw s e=>⟨_,Dt _ _,Dv B e⟩,λ_ _ _ ⟨K,a,b,c⟩ k=>⟨K,a.keeps k,b,c.keeps k⟩⟩
noncomputable def Dw(p:Program)(row:String)(b:Bool)(N:Nat)(w:World):Option Shared:=(W.fencedOpening treeTable p w N).bind λs₀=>W.topFrom treeTable p (w.withFollow row b) N s₀
def Dx{p q:Program}{loose:List Str}{Xt:Shared->Bool}{α:Type}{Yf:Shared->α}{Ya:World->α}{N:Nat}{g0:Bool}(row:String)
  (h1:∀w,(Dw p row false N w).map (W.openSeen q loose (importedModules p.main.body) Xt g0)=some (W.openGood q loose)) (h2:∀w,(Dw p row true N w).map (W.openSeen q loose (importedModules p.main.body) Xt g0)=some (W.openGood q loose))
  (h3:∀w,(Dw p row false N w).map Yf=some (Ya (w.withFollow row false))) (h4:∀w,(Dw p row true N w).map Yf=some (Ya (w.withFollow row true))):W.LeftO p q loose Xt Yf Ya N g0:=by
 refine W.LeftO.of_split row λw=>?_
 obtain⟨sA,a1,a2⟩:=kD.mp (h1 w);obtain⟨sB,b1,b2⟩:=kD.mp (h2 w);obtain⟨sC,c1,c2⟩:=kD.mp (h3 w);obtain⟨sD,d1,d2⟩:=kD.mp (h4 w);rw[a1]at c1;rw[b1]at d1;cases c1;cases d1;obtain⟨s0,f0,tA⟩:=Option.bind_eq_some_iff.mp a1;obtain⟨s1,f1,tB⟩:=Option.bind_eq_some_iff.mp b1;rw[f0]at f1;cases f1;rw[f0,zX,tA,tB,zX,zX,a2,b2,c2,d2]
end L2.U
noncomputable section
namespace L2.U
open PySem PySem.W
def topQ(p:Program)(w:World)(m:Nat)(Sj:Option Value):Nat->SharedT->Thread->Option SharedT
 | 0,_,_=>none
 | n+1,s,t=>match through t with
  | true=>some s
  | false=>match Fast.tw6613529449190102663 m Sj t with
   | false=>none
   | true=>match Fast.tw10156331382660048174 (Fast.tw11892475500146522536 Fast.tw14364793385576792824) p w s t with
    | some (s',t')=>topQ p w m Sj n s' t'
    | none=>none
theorem topQ_of{p:Program}{w:World}{m:Nat}{Sj:Option Value}:∀{n:Nat} {s r:SharedT} {t:Thread},topQ p w m Sj n s t=some r->topRun treeTable p w m Sj n s.abs t=some r.abs
 | 0,_,_,_,h=>by cases h
 | n+1,s,r,t,h=>by
  unfold topQ at h;unfold topRun;rw[<-Fast.te6613529449190102663,<-Fast.te10156331382660048174,<-Fast.te11892475500146522536,<-Fast.te14364793385576792824]at h;cases a:through t with
  | true=>rw[a]at h;cases h;rfl
  | false =>
   rw[a]at h;cases b:stepOk m Sj t with
   | false=>rw[b]at h;cases h
   | true =>
    rw[b]at h;cases c:stepT (denote treeTable) p w s t with
    | none=>rw[c]at h;cases h
    | some y=>rw[c]at h;rw[stepT_spec c];exact topQ_of h
noncomputable def Tc(l:List Obj):BT:=(l.foldl (fun(x:BT×Nat) o=>(x.1.ins x.2 o,x.2+1)) (.nil,0)).1
theorem JM(P:Params):absHeap (Tc (boot_heap P).objs.toList) (boot_heap P).objs.size (boot_heap P).life=boot_heap P:=by kernel_rfl
theorem JN(P:Params):(boot_heap P).isNs mainGlobals=true:=by kernel_rfl
def FK(p:Program)(row:String)(b:Bool)(N:Nat)(w:World)(os:OsState):Option SharedT :=
 topQ p (w.withFollow row b) (boot_heap w.params).objs.size ((boot_heap w.params).nsMap mainGlobals "__annotations__") N ⟨Tc (boot_heap w.params).objs.toList,(boot_heap w.params).objs.size,(boot_heap w.params).life,.mk [],boot_drawn,boot_toks,os⟩ (topStub p)
def Sk(p:Program)(w:World)(s:SharedT):Bool:=staticsOk (importedModules p.main.body) (boot_heap w.params) s.abs.heap&&namesBound p s.abs.heap&&gensDone s.abs&&laidKept (boot_heap w.params) s.abs.heap
theorem oW{p:Program}{row:String}{b:Bool}{N:Nat}{w:World}{α:Type}{g:Shared->α}{a:α}(e:opening p=plainProg p.main.scope.names)(hN:Nat.ble 600 N=true)(f:∀s,fenceModules? p s=some s)
 (h:∀os,(FK p row b N w os).map (λs=>(Sk p w s,g s.abs))=some (true,a)):(Dw p row b N w).map g=some a:=by
 obtain⟨⟨hp,gs,d,k,os⟩,h1,h2⟩:=kD.mp (boot_open e hN f w);obtain⟨rfl,rfl,rfl,rfl⟩:hp=boot_heap w.params/\gs=.mk []/\d=boot_drawn/\k=boot_toks:=by simpa using h2
 obtain⟨s,h3,h4⟩:=kD.mp (h os);have h5:=topQ_of h3;unfold SharedT.abs at h5;rw[JM]at h5;unfold Dw;rw[h1];show Option.map g (topFrom treeTable p (w.withFollow row b) N _)=_;unfold topFrom;dsimp only
 rw[JN,h5];have h6:=(Prod.mk.inj h4).1;unfold Sk SharedT.abs at h6;show Option.map g (match staticsOk (importedModules p.main.body) (boot_heap w.params) (absHeap s.tree s.n s.life)&&namesBound p (absHeap s.tree s.n s.life)&&gensDone ⟨absHeap s.tree s.n s.life,s.gens,s.drawn,s.toks,s.os⟩&&laidKept (boot_heap w.params) (absHeap s.tree s.n s.life)with | true=>_ | false=>_)=_
 rw[h6];exact dH some (Prod.mk.inj h4).2
theorem Ob{p q:Program}{loose:List Str}{Xt:Shared->Bool}{α:Type}{Yf:Shared->α}{Ya:World->α}{N:Nat}{g0:Bool}(row:String)(e:opening p=plainProg p.main.scope.names)(hN:Nat.ble 600 N=true)(f:∀s,fenceModules? p s=some s)
 (h0:∀w os,(FK p row false N w os).map (λs=>(Sk p w s,openSeen q loose (importedModules p.main.body) Xt g0 s.abs,Yf s.abs))=some (true,openGood q loose,Ya (w.withFollow row false)))
 (h1:∀w os,(FK p row true N w os).map (λs=>(Sk p w s,openSeen q loose (importedModules p.main.body) Xt g0 s.abs,Yf s.abs))=some (true,openGood q loose,Ya (w.withFollow row true))):LeftO p q loose Xt Yf Ya N g0:=by
 have fs:∀{β γ δ:Type} {o:Option δ} {a:δ->β} {b:δ->γ} {x:β} {y:γ},o.map (λs=>(a s,b s))=some (x,y)->o.map a=some x/\o.map b=some y:=λ{_ _ _ o _ _ _ _} h=>by
  cases o with
  | none=>cases h
  | some s=>cases h;exact⟨rfl,rfl⟩
 exact Dx row (λw=>(fs (oW e hN f λos=>h0 w os)).1) (λw=>(fs (oW e hN f λos=>h1 w os)).1) (λw=>(fs (oW e hN f λos=>h0 w os)).2) λw=>(fs (oW e hN f λos=>h1 w os)).2
end L2.U
namespace bI
open PySem L2 L2.U
noncomputable def top(i:Nat):Stmt:=PySem.Challenge.pw_lendrule_k53_straight_runs.main.body.getD i (.Pass ⟨0,0,0,0⟩)
def BG(i j:Nat):Stmt:=match top i with | .ClassDef _ _ _ b _ _ _ _ _ _ _=>b.getD j (.Pass ⟨0,0,0,0⟩) | s=>s
abbrev MK:Stmt:=BG 60 0
abbrev FL:Stmt:=BG 61 0
abbrev JO:Stmt:=BG 62 0
abbrev BH:Stmt:=BG 72 0
abbrev ML:Stmt:=BG 73 0
abbrev iY:Stmt:=BG 62 1
abbrev iZ:Stmt:=BG 62 2
abbrev kr:Stmt:=BG 62 3
abbrev nS:Stmt:=BG 62 4
abbrev ku:Stmt:=BG 62 5
abbrev vo:Stmt:=BG 62 6
abbrev d5:Stmt:=BG 62 7
abbrev kx:Stmt:=BG 62 8
abbrev eW:Stmt:=BG 62 9
noncomputable def gJ:List (Str×Str):=[("put","put_acts"),("set","set_acts"),("fill","put_acts"),("copy","copy_acts"),("move","move_acts"),("drop","drop_acts"),("lend","lend_acts"),("sole","lend_acts"),("call","call_acts"),("if","if_acts"),("go","go_acts"),("say","say_acts"),("give","give_acts")]
def aM:Pg where
 defs:=([("leaves",7),("check_part",8),("part",9),("first",10),("is_copied",11),("kind_of",14),("is_holder",15),("shape_of",16),("acts",29),("asks_for_full",30),("is_lending",31),("touch",32),("touch_whole",33),("at_acts",34),("operand_acts",35),("target_acts",36),("put_acts",37),("set_acts",38),("copy_acts",39),("move_acts",40),("drop_acts",41),("lend_acts",42),("call_acts",43),("arg_act",44),("owner_act",45),("if_acts",46),("go_acts",47),("say_acts",48),("give_acts",49),("read_by",52),("written_by",53),("lent_by",54),("soled_by",55),("place_of",56),("check_held",63),("boxes_of",64),("pile_behind",65),("pieces",68),("operands",69),("acts_by_row",74),("row_of",75),("acts_of",76),("run_from_first",77),("begin",78),("run_on",79),("do_row",80),("row_behind",81),("do_acts",82),("do_act",83),("written",84),("strip_of",85),("number_put",86),("numbers_found",87),("do_call",88),("do_give",89),("given_back",90),("owned_by",91),("take_back",92),("run",94),("_law_cell_at",96),("_law_whole",97),("_law_names",98),("_law_spot",99),("_law_operand",100),("_law_copied",101),("_law_row",102),("_law_program",103),("_law_begin",104),("_law_place",105),("_law_number",106),("_law_reckon",107),("_law_done",108),("_law_told",109),("law",110)]:List (String×Nat)).map λd=>(d.1,top d.2)
 cons:=[("HOLDER_WORDS",.au [(.str "lent"),(.str "sole")]),("ROW",.int 0),("ACT",.int 1),("NAME",.int 2),("THROUGH",.int 3),("FIRST",.int 4),("MANY",.int 5),("TAKER",.int 6),("REST",.au [(.str "rest"),(.str ""),(.bl false),(.int 0),(.int 0),(.str "")]),("HAND",.au [(.str "hand"),(.str ""),(.bl false),(.int 0),(.int 0),(.str "")]),("ASKING",.au [(.str "read"),(.str "turn"),(.str "empty"),(.str "lend"),(.str "sole"),(.str "give")]),("LENDING",.au [(.str "lend"),(.str "sole")]),("MOST_BEGUN",.int 12)]
 dt:=["bool","dict","enumerate","int","isinstance","len","list","range","str","sum","tuple","zip"]
 tabs:=[("MAKERS",gJ)]
 cls:=[("Box",MK),("Grip",FL),("Boxes",JO),("Frame",BH),("Run",ML)]
 gH:=[(("Boxes.new_tag":Str),"Boxes","new_tag",iY),(("Boxes.new_box":Str),"Boxes","new_box",iZ),(("Boxes.owned":Str),"Boxes","owned",kr),(("Boxes.let":Str),"Boxes","let",nS),(("Boxes.touch":Str),"Boxes","touch",ku),(("Boxes.lend":Str),"Boxes","lend",vo),(("Boxes.touch_boxes":Str),"Boxes","touch_boxes",d5),(("Boxes.store":Str),"Boxes","store",kx),(("Boxes.let_go":Str),"Boxes","let_go",eW)]
 jB:=[("run",[.int 400])]
 xo:=[]
 flds:=["number","pile","value","boxes","tag","entries","boxes_made","tags_made","at","has","row","program","world","numbers","listed","frames","said","count"]
 eO:=[("TOUCHES",[("read",.str "read"),("give",.str "read"),("fill",.str "write"),("turn",.str "write"),("empty",.str "write"),("lend",.str "lend"),("sole",.str "sole")]),("SORTS",[("put",.au [(.str "spot"),(.str "operand")]),("set",.au [(.str "spot"),(.str "sign"),(.str "operand"),(.str "operand")]),("fill",.au [(.str "spot"),(.str "operand")]),("copy",.au [(.str "spot"),(.str "spot")]),("move",.au [(.str "spot"),(.str "spot")]),("drop",.au [(.str "spot")]),("lend",.au [(.str "name"),(.str "spot")]),("sole",.au [(.str "name"),(.str "spot")]),("call",.au [(.str "name"),(.str "function"),(.str "args")]),("if",.au [(.str "operand"),(.str "operand"),(.str "row")]),("go",.au [(.str "row")]),("say",.au [(.str "operand")]),("give",.au [(.str "name")])])]
 sF:=[]
 S5:=[(("leaves":Str),[(("told":Str),1)]),(("acts":Str),[(("told":Str),1)]),(("call_acts":Str),[(("told":Str),1)]),(("check_held":Str),[(("has":Str),1)]),(("boxes_of":Str),[(("has":Str),1)]),(("acts_by_row":Str),[(("told":Str),2)]),(("run_from_first":Str),[(("run":Str),1),(("[return]":Str),1)]),(("begin":Str),[(("has":Str),1),(("frames":Str),2)]),(("run_on":Str),[(("run":Str),1),(("frames":Str),1)]),(("do_row":Str),[(("frame":Str),1),(("run":Str),1),(("frames":Str),1),(("said":Str),1)]),(("do_acts":Str),[(("[return]":Str),7),(("found":Str),1)]),(("do_act":Str),[(("has":Str),1)]),(("numbers_found":Str),[(("numbers":Str),1)]),(("do_give":Str),[(("frames":Str),1)]),(("given_back":Str),[(("has":Str),1)]),(("owned_by":Str),[(("has":Str),1)]),(("take_back":Str),[(("frame":Str),1),(("has":Str),1)]),(("run":Str),[(("going":Str),1),(("frames":Str),1),(("said":Str),1)]),(("_law_names":Str),[(("_law_names_here":Str),1)]),(("_law_program":Str),[(("_law_rows":Str),1)]),(("_law_begin":Str),[(("_law_kept":Str),1),(("[return]":Str),1)]),(("_law_done":Str),[(("_law_kept":Str),1)]),(("law":Str),[(("_law_early":Str),1),(("_law_said":Str),1),(("_law_kept":Str),1)]),(("Boxes.new_tag":Str),[(("self":Str),1)]),(("Boxes.new_box":Str),[(("box":Str),1),(("self":Str),1),(("entries":Str),1)]),(("Boxes.owned":Str),[(("[return]":Str),1)]),(("Boxes.lend":Str),[(("[return]":Str),1)]),(("Boxes.touch_boxes":Str),[(("found":Str),1),(("[return]":Str),7),(("box":Str),1),(("has":Str),1),(("entries":Str),1)]),(("Boxes.store":Str),[(("box":Str),1)]),(("Boxes.let_go":Str),[(("box":Str),1),(("entries":Str),1)]),(("Boxes":Str),[(("entries":Str),1)]),(("Frame":Str),[(("has":Str),1)]),(("Run":Str),[(("frames":Str),2),(("said":Str),1)])]
section
end
end bI
set_option maxHeartbeats 4000000
set_option maxHeartbeats 4000000
set_option maxHeartbeats 4000000
set_option maxHeartbeats 2000000
set_option maxHeartbeats 2000000
set_option maxHeartbeats 2000000
set_option maxHeartbeats 4000000
set_option maxHeartbeats 2000000
set_option maxHeartbeats 2000000
set_option maxHeartbeats 4000000
set_option maxHeartbeats 4000000
set_option maxHeartbeats 4000000
set_option maxHeartbeats 2000000
set_option maxHeartbeats 4000000
set_option maxHeartbeats 2000000
set_option maxHeartbeats 4000000
set_option maxHeartbeats 2000000
set_option maxHeartbeats 4000000
set_option maxHeartbeats 4000000
set_option maxHeartbeats 4000000
set_option maxHeartbeats 4000000
set_option maxHeartbeats 4000000
set_option maxHeartbeats 4000000
set_option maxHeartbeats 4000000
set_option maxHeartbeats 4000000
set_option maxHeartbeats 4000000
set_option maxHeartbeats 4000000
set_option maxHeartbeats 4000000
set_option maxHeartbeats 4000000
set_option maxHeartbeats 4000000
set_option maxHeartbeats 4000000
set_option maxHeartbeats 4000000
set_option maxHeartbeats 4000000
set_option maxHeartbeats 4000000
set_option maxHeartbeats 4000000
set_option maxHeartbeats 4000000
set_option maxHeartbeats 4000000
set_option maxHeartbeats 4000000
set_option maxHeartbeats 4000000
set_option maxHeartbeats 4000000
set_option maxHeartbeats 4000000
set_option maxHeartbeats 4000000
set_option maxHeartbeats 4000000
set_option maxHeartbeats 4000000
set_option maxHeartbeats 4000000
set_option maxHeartbeats 4000000
set_option maxHeartbeats 4000000
set_option maxHeartbeats 4000000
set_option maxHeartbeats 4000000
set_option maxHeartbeats 4000000
set_option maxHeartbeats 4000000
set_option maxHeartbeats 4000000
set_option maxHeartbeats 4000000
noncomputable section
namespace bI
open PySem L2 L2.U
theorem Tb:aM.defs.all (λd=>Jo d.2)=true:=by kernel_rfl
theorem hbd:FE aM:=by
 intro kV doc pm an cV ct u;kernel_rfl
theorem X4:aM.cls.all (λd=>Jo d.2)=true:=by kernel_rfl
theorem X5:N8 aM:=by
 intro kV doc pm an cV ct u;kernel_rfl
theorem X6:aM.gH.all (λd=>Jo d.2.2.2)=true:=by kernel_rfl
theorem X7:Fy aM:=by
 intro kV doc pm an cV ct u;kernel_rfl
theorem hnd:(aM.defs.map (·.1)++aM.gH.map (·.1)).Nodup:=by decide +kernel
theorem qd:aM.defs.lookup ("run":Str)=some (top 94):=by kernel_rfl
theorem X8:N7 "run" (top 94) 1:=by
 intro T kV doc pm an cV ct u v;exact⟨⟨_,rfl,rfl⟩,⟨_,rfl,rfl⟩⟩
theorem Td:MJ aM:=by
 intro d hd ds e;have h:=j2 (zI.mp hnd).1 hd;have e:(match d.1==("run":Str)with | true=>some [PV.int 400] | false=>List.lookup d.1 [])=some ds:=e
 cases hc:d.1==("run":Str)
 ·rw[hc]at e;cases e
 ·rw[hc]at e;cases e;rw[iF.mp hc,qd]at h;have h:=aZ h;rw[iF.mp hc,<-h];exact X8
noncomputable abbrev pp:Program:=W.OpenLaw.prog PySem.Challenge.rw_lendrule_k53_straight_runs
def qv:Program:=W.view pp [110]
def lo:List Str:=pp.boundNames.filter (· != "law")
def Xt(s:Shared):Bool:=W.xlAt qv [] s&&W.recOk (W.RowW.records (W.OpenRow.toRowW (W.OpenLaw.row PySem.Challenge.rw_lendrule_k53_straight_runs))) s
abbrev hk:W.Hook:=JL aM ⟨Tb,hbd,X4,X5,X6,X7,Td⟩
theorem kq1(w:World)(os:OsState):(FK pp "special-get-raises" false 7000 w os).map (λs=>(Sk pp w s,W.openSeen qv lo (importedModules pp.main.body) Xt true s.abs,W.Hook.obs hk s.abs))=some (true,W.openGood qv lo,W.Hook.val hk (w.withFollow "special-get-raises" false)):=by kernel_rfl
theorem kq2(w:World)(os:OsState):(FK pp "special-get-raises" true 7000 w os).map (λs=>(Sk pp w s,W.openSeen qv lo (importedModules pp.main.body) Xt true s.abs,W.Hook.obs hk s.abs))=some (true,W.openGood qv lo,W.Hook.val hk (w.withFollow "special-get-raises" true)):=by kernel_rfl
theorem ws1:(W.OpenLaw.row PySem.Challenge.rw_lendrule_k53_straight_runs).wellSaid=true:=by kernel_rfl
theorem ws:W.OpenLaw.wellSaid PySem.Challenge.rw_lendrule_k53_straight_runs=true:=by
 unfold W.OpenLaw.wellSaid;rw[ws1];kernel_rfl
end bI
open PySem PySem.W PyProof.Rows PySem.Calls
set_option maxRecDepth 100000 in
set_option maxHeartbeats 0 in
theorem bI.iJ(hc:∀d:DefRec,d.name="law"->d.params.defaults=[]->W.WalkO bI.qv bI.lo (XL bI.qv []) (Hook.says bI.hk) (W.OpenRow.toRowW (W.OpenLaw.row PySem.Challenge.rw_lendrule_k53_straight_runs)) d [] (λf vs=>PySem.call f vs)):PySem.Challenge.rw_lendrule_k53_straight_runs.Holds:=by
 w_on;refine W.holds_law bI.ws λbE=>?_
 refine W.holds_open (q:=bI.qv) (loose:=bI.lo) (Xt:=bI.Xt) (XP:=XL bI.qv []) (Yf:=Hook.obs bI.hk) (Ya:=Hook.val bI.hk) (YP:=Hook.says bI.hk) (N:=7000) (L2.U.Ob "special-get-raises" (by kernel_rfl) (by decide) (λ_=>rfl) bI.kq1 bI.kq2) (Hook.of _) (Hook.keeps _) (λs e=>xl_of s (pE.mp e).1) XL.keeps (by rfl) (by rfl) (by rfl) (λs e=>recFacts_of (pE.mp e).2) (by rfl) (by first | assumption | decide +kernel) (by decide +kernel) ⟨rfl,rfl,rfl,rfl,rfl,by decide +kernel⟩ ?hw (hc _ rfl rfl)
 case hw=>w_witness2
end
namespace PySem
open Sem (wp)
section
variable {prog:Program} {w:World} {K:Type} [DecidableEq K] (knd:KeyKind prog w K)
def eJ(h:Heap)(k:K×List K)(a:Addr):Prop:=∃o u b n,h.get? a=some o/\o.cls=.type "tuple"/\o.data=.seq #[u,.ref b] n/\knd.is k.1 u=true/\IsTupleKey knd h k.2 b
noncomputable def qe(k:K×List K):Int:=reduceHash (Builtin.Tuple.tupleHashOf [knd.hash k.1,tupleKeyHash knd k.2])
variable {knd}
theorem eJ.typeIs{s:Shared}{ks:K×List K}{a:Addr}(x:eJ knd s.heap ks a):s.TypeIs (.ref a) "tuple":=let ⟨o,_,_,_,ho,hc,_⟩:=x;⟨o,ho,hc⟩
theorem eJ.inj{h:Heap}{a:Addr}{x y:K×List K}(hx:eJ knd h x a)(hy:eJ knd h y a):x=y:=by
 obtain⟨o,u,b,n,ho,_,hd,hi,hj⟩:=hx;obtain⟨o',u',b',n',mP,_,EW,hi',hj'⟩:=hy;obtain rfl:o=o':=aZ (ho.symm.trans mP);rw[hd]at EW;injection EW with h1 _
 cases h1;exact Prod.ext (knd.inj _ _ _ hi hi') (hj.inj hj')
theorem eJ.keeps{h h':Heap}{ks:K×List K}{a d:Addr}{o:Obj}{es ep}(x:eJ knd h ks a)(ho:h.get? d=some o)(hd:o.data=.dict es ep)(hs:Heap.SameBut d h h'):eJ knd h' ks a:=by
 obtain⟨o',u,b,n,mP,hc,EW,hi,hj⟩:=x;have fx:a≠d:=by
  rintro rfl
  obtain rfl:o'=o:=aZ (mP.symm.trans ho);rw[hd]at EW;exact nomatch EW
 exact⟨o',u,b,n,(hs.2 a fx).trans mP,hc,EW,hi,hj.keeps ho hd hs⟩
variable {A:Around} {E:Value->Shared->Prop} {s:Shared}
theorem lJ{ks:K×List K}{a:Addr}{Q:Int->Shared->Prop}(hu:A.units+1<cLine)(hk:eJ knd s.heap ks a)(h:Q (qe knd ks) {s with toks:=s.toks+(ks.2.length+3)}) :
  wpAny (model prog w) A (pyHash (.ref a)) Q E s:=by
 have hT:=hk.typeIs;obtain⟨o,u,b,n,ho,_,hd,hi,hj⟩:=hk;unfold pyHash
 first | unfold pyHashByItsType | skip
 first | refine ai (wpAny_cRoomFor_or (.inr (by lia)) ?_) | skip
 refine ai (mZ hT uT.lookup ?_);show wpAny _ _ (if(some (Value.builtin "tuple.__hash__")==some Value.none)=true then _ else _) Q E s
 rw[if_neg (by rw[beq_builtin_none];exact cw)]
 refine ai (mZ hT uT.lookup ?_);show wpAny _ _ (callSpecialIfBoundUnlessNone? (.ref a) "__hash__" _ >>= _) Q E s;refine ai (wpAny_callSpecialIfBoundUnlessNone?_slot hT uT (fH uT hT F.entry_tuple_hash ?_ (F.args_tuple_hash_1 _)));show wpAny _ _ (Builtin.Tuple.tupleItemsOf (.ref a) >>= _) _ _ s;refine ai (zE ho hd ?_);refine ai ?_;rw[<-zF];refine uU _
  (λrest (c:Array Int) s'=>(rest=[u,.ref b]/\c.toList=[]/\s'=s)\/(rest=[.ref b]/\c.toList=[knd.hash ks.1]/\s'={s with toks:=s.toks+1})\/(rest=[]/\c.toList=[knd.hash ks.1,tupleKeyHash knd ks.2]/\s'={s with toks:=s.toks+(ks.2.length+2)}))
  _ ?_ ?_ _ _ (.inl ⟨rfl,rfl,rfl⟩)
 · rintro x rest c s' (⟨h1,h2,rfl⟩ | ⟨h1,h2,rfl⟩ | ⟨h1,_,_⟩)
   · cases h1
     refine ai (knd.pyHash hi ?_)
     first
      | exact ar (.inr (.inl ⟨rfl,by simp[h2],rfl⟩))
      | exact ai (ar (ar (.inr (.inl ⟨rfl,by simp[h2],rfl⟩))))
   · cases h1
     refine ai (wpAny_pyHash_tuple (s:={s with toks:=s.toks+1}) (by show A.in1.units<cLine;exact hu) hj ?_)
     have e:s.toks+1+(ks.2.length+1)=s.toks+(ks.2.length+2):=by lia
     first
      | exact ar (.inr (.inr ⟨rfl,by simp[h2],by rw[<-e]⟩))
      | exact ai (ar (ar (.inr (.inr ⟨rfl,by simp[h2],by rw[<-e]⟩))))
   · cases h1
 · rintro c s' (⟨h1,_,_⟩ | ⟨h1,_,_⟩ | ⟨_,h2,rfl⟩)
   · cases h1
   · cases h1
   · show wpAny _ _ (retInt (Builtin.Tuple.tupleHashOf c.toList)) _ _ _
     rw[h2];refine wpAny_ret_mkInt ?_;show wpAny _ _ (if(decide (-(2:Int)^63<=Builtin.Tuple.tupleHashOf [knd.hash ks.1,tupleKeyHash knd ks.2])&&decide (Builtin.Tuple.tupleHashOf [knd.hash ks.1,tupleKeyHash knd ks.2]<2^63))=true then _ else _) Q E _
     unfold qe reduceHash at h;have e:s.toks+(ks.2.length+2)+1=s.toks+(ks.2.length+3):=by lia
     split
     · rename_i hr
       rw[if_pos hr]at h;exact ar (by simpa[Nat.add_assoc]using h)
     · rename_i hr
       rw[if_neg hr]at h;exact ai (iE (ar (by simpa[Nat.add_assoc]using h)))
theorem vp{x y:K×List K}{a b:Addr}{P:Fin->Shared->Prop}(hu:A.units<cLine)(hx:eJ knd s.heap x a)(hy:eJ knd s.heap y b) (h:P (.done (.ret (.bool (decide (x=y))))) s) :
  wpAny (model prog w) A (Builtin.«tuple.__eq__» ⟨[.ref a,.ref b],[]⟩) P E s:=by
 have hTb:=hy.typeIs;obtain⟨oa,u,ba,na,hoa,_,hda,hia,hja⟩:=hx;obtain⟨ob,v,bb,nb,Sl,_,Aj,hib,hjb⟩:=hy;show wpAny _ _ (isInstance (.ref b) (.type "tuple") >>= _) _ _ s;refine ai (kN hTb zz ?_);simp only[iB,eF,cK];refine ai (zE hoa hda ?_);refine ai (zE Sl Aj ?_);refine ai ?_;refine uU _
  (λrest r s'=>r.1=none/\s'=s/\(rest=[(u,v),(.ref ba,.ref bb)]\/(rest=[(.ref ba,.ref bb)]/\x.1=y.1)\/(rest=[]/\x=y)))
  _ ?_ ?_ _ _ ⟨rfl,rfl,.inl rfl⟩
 · rintro⟨p,q⟩ rest r s' ⟨hr,rfl,(e | ⟨e,e1⟩ | ⟨e,_⟩)⟩
   · cases e
     refine ai (knd.eqBool hia hib ?_);by_cases hk:x.1=y.1
     · rw[dW hk]
       simp only[iB,eF,cK];exact ar ⟨rfl,rfl,by simp[hk]⟩
     · rw[cZ hk]
       simp only[u9,eI];have hf:decide (x=y)=false:=cZ λe=>hk (by rw[e])
       rw[hf]at h;exact ai (ar (ar (ar h)))
   · cases e
     refine ai (wpAny_eqBool_tuple hu hja hjb ?_);by_cases hk:x.2=y.2
     · rw[dW hk]
       simp only[iB,eF,cK];exact ar ⟨rfl,rfl,by simp[Prod.ext_iff,e1,hk]⟩
     · rw[cZ hk]
       simp only[u9,eI];have hf:decide (x=y)=false:=cZ λe=>hk (by rw[e])
       rw[hf]at h;exact ai (ar (ar (ar h)))
   · cases e
 · rintro⟨r1,r2⟩ s' ⟨hr,rfl,(e | ⟨e,_⟩ | ⟨_,e⟩)⟩
   · cases e
   · cases e
   · simp only at hr
     subst hr;rw[dW e]at h;exact ar h
theorem lK{x y:K×List K}{a b:Addr}{Q:Bool->Shared->Prop}(hu:A.units+1<cLine)(hx:eJ knd s.heap x a)(hy:eJ knd s.heap y b)(h:Q (decide (x=y)) s) :
  wpAny (model prog w) A (eqBool (.ref a) (.ref b)) Q E s:=by
 unfold eqBool
 try with_reducible refine dY ?_
 show wpAny _ _ (if(Value.ref a==Value.ref b)=true then _ else _) Q E s
 by_cases X9:(Value.ref a==Value.ref b)=true
 · rw[if_pos X9]
   have e:a=b:=by have:=aV X9;injection this
   subst e;obtain rfl:=hx.inj hy;exact ai (iE (ar (by simpa using h)))
 · rw[if_neg X9]
   exact ai (wpAny_richCompare_same_room (op:=.Eq) hx.typeIs hy.typeIs uY
    (fH uY hx.typeIs F.entry_tuple_eq (vp (by show A.in1.units<cLine;exact hu) hx hy ⟨_,rfl,(λe=>nomatch e),jr h⟩) (F.args_tuple_eq_2 _ _)) (by lia))
theorem qf{ks:List K}{n:Nat}{a:Addr}{Q:Bool->Shared->Prop}(hk:IsTupleKey knd s.heap ks a)(h:Q true s):wpAny (model prog w) A (eqIsQuiet (n+1) (.ref a)) Q E s:=by
 have hT:=hk.typeIs;obtain⟨o,items,m,ho,_,hd,hi⟩:=hk;unfold eqIsQuiet;refine ai (mZ hT uY.lookup ?_);show wpAny _ _ (isInstance (.ref a) (.type "tuple") >>= _) _ _ s;refine ai (kN hT zz ?_);simp only[iB,eF,cK];refine ai (fI ho hd ?_);refine ai ?_;show wpAny _ _ (forIn items _ _) _ _ s;rw[<-zF];refine uU _ (λrest r s'=>r.1=none/\s'=s/\∀v∈rest,carriedByValue v=true) _ ?_ ?_ _ _ ⟨rfl,rfl,hi.byValue⟩
 · rintro v rest r s' ⟨hr,rfl,hall⟩
   rw[eqIsQuiet_byValue _ (hall v du)];refine ai (ar ?_);simp only[iB,eF,cK];exact ar ⟨rfl,rfl,λu hu'=>hall u (cG _ hu')⟩
 · rintro⟨r1,r2⟩ s' ⟨hr,rfl,_⟩
   simp only at hr;subst hr;exact ar h
theorem jC{ks:K×List K}{a:Addr}{Q:Bool->Shared->Prop}(hk:eJ knd s.heap ks a)(h:Q true s):wpAny (model prog w) A (eqIsQuiet 8 (.ref a)) Q E s:=by
 have hT:=hk.typeIs;obtain⟨o,u,b,n,ho,_,hd,hi,hj⟩:=hk;unfold eqIsQuiet;refine ai (mZ hT uY.lookup ?_);show wpAny _ _ (isInstance (.ref a) (.type "tuple") >>= _) _ _ s;refine ai (kN hT zz ?_);simp only[iB,eF,cK];refine ai (fI ho hd ?_);refine ai ?_;show wpAny _ _ (forIn #[u,Value.ref b] _ _) _ _ s;rw[<-zF];refine uU _ (λrest r s'=>r.1=none/\s'=s/\(rest=[u,.ref b]\/rest=[.ref b]\/rest=[])) _ ?_ ?_ _ _ ⟨rfl,rfl,.inl rfl⟩
 · rintro v rest r s' ⟨hr,rfl,(e | e | e)⟩
   · cases e
     rw[eqIsQuiet_byValue _ (knd.byValue _ _ hi)];refine ai (ar ?_);simp only[iB,eF,cK];exact ar ⟨rfl,rfl,by simp⟩
   · cases e
     refine ai (qf hj ?_);simp only[iB,eF,cK];exact ar ⟨rfl,rfl,by simp⟩
   · cases e
 · rintro⟨r1,r2⟩ s' ⟨hr,rfl,_⟩
   simp only at hr;subst hr;exact ar h
end
def jD{prog:Program}{w:World}{K:Type} [DecidableEq K] (knd:KeyKind prog w K):HeapKind prog w (K×List K) where
 is:=eJ knd
 hash:=qe knd
 draws:=λks=>ks.2.length+3
 room:=λA=>A.units+1<cLine
 inj:=λhx hy=>hx.inj hy
 keeps:=λx ho hd hs=>x.keeps ho hd hs
 pyHash:=λhu hk h=>lJ hu hk h
 eqBool:=λhu hx hy h=>lK hu hx hy h
 quiet:=λhk h=>jC hk h
theorem fQ{prog:Program}{w:World}{K:Type} [DecidableEq K] {knd:KeyKind prog w K} {A:Around} (hu:A.units+2<cLine):(jD knd).room A.in1:=hu
end PySem
namespace L2
open PySem PySem.Spec PyProof.Rows
noncomputable def s9:bP->Value->Bool
 | .inl k,v=>Value.isInt k v
 | .inr x,v=>Value.isStrOf x v
noncomputable def Yb(w:World):bP->Int
 | .inl k=>hashInt k
 | .inr x=>hashStr w x
theorem cO:∀{k:bP} {v:Value},s9 k v=true->(∃i t,k=Sum.inl i/\v=Value.int i t)\/(∃x t,k=Sum.inr x/\v=Value.str x t)
 | .inl i,v,h=>by
  obtain⟨t,e⟩:=Value.isInt_shape h;exact .inl ⟨i,t,rfl,e⟩
 | .inr x,v,h=>by
  obtain⟨t,e⟩:=Value.isStrOf_shape h;exact .inr ⟨x,t,rfl,e⟩
def Dy(i:Int)(t:Tok):s9 (.inl i) (.int i t)=true:=by simp[s9,Value.isInt]
def Dz(x:Str)(t:Tok):s9 (.inr x) (.str x t)=true:=by simp[s9,Value.isStrOf]
def Oc(a b:Int):decide ((Sum.inl a:bP)=Sum.inl b)=(a==b):=by
 grind
def Od(a b:Str):decide ((Sum.inr a:bP)=Sum.inr b)=decide (a=b):=by
 grind
def Oe(a:Int)(b:Str):decide ((Sum.inl a:bP)=Sum.inr b)=false:=by grind
def Of(a:Str)(b:Int):decide ((Sum.inr a:bP)=Sum.inl b)=false:=by grind
def di(prog:Program)(w:World):PySem.KeyKind prog w bP where
 is:=s9
 hash:=Yb w
 inj:=λv a b ha hb=>by
  rcases cO ha with⟨i,t,rfl,rfl⟩ | ⟨x,t,rfl,rfl⟩
  ·rcases cO hb with⟨j,u,rfl,e⟩ | ⟨y,u,rfl,e⟩
   ·injection e with e1 _;rw[e1]
   ·exact nomatch e
  ·rcases cO hb with⟨j,u,rfl,e⟩ | ⟨y,u,rfl,e⟩
   ·exact nomatch e
   ·injection e with e1 _;rw[e1]
 byValue:=λk v h=>by
  rcases cO h with⟨i,t,rfl,rfl⟩ | ⟨x,t,rfl,rfl⟩<;>rfl
 pyHash:=λhv h=>by
  rcases cO hv with⟨i,t,rfl,rfl⟩ | ⟨x,t,rfl,rfl⟩
  ·exact wpAny_pyHash_int h
  ·exact wpAny_pyHash_str h
 eqBool:=λhu hv h=>by
  rcases cO hu with⟨i,t,rfl,rfl⟩ | ⟨x,t,rfl,rfl⟩
  ·rcases cO hv with⟨j,u,rfl,rfl⟩ | ⟨y,u,rfl,rfl⟩
   ·rw[Oc]at h;exact wpAny_eqBool_int h
   ·rw[Oe]at h;exact SeqAt.EqAt.int_str i t y u _ _ _ _ h
  ·rcases cO hv with⟨j,u,rfl,rfl⟩ | ⟨y,u,rfl,rfl⟩
   ·rw[Of]at h;exact SeqAt.EqAt.str_int x t j u _ _ _ _ h
   ·rw[Od]at h;exact wpAny_eqBool_str h
 «strs» := λk x t v h=>by
  rcases cO h with⟨i,u,rfl,e⟩ | ⟨y,u,rfl,e⟩
  ·exact nomatch e
  ·injection e with e1 _
   subst e1;cases v<;>rfl
def xu(prog:Program)(w:World)(i:Int)(t:Tok):(di prog w).is (.inl i) (.int i t)=true:=Dy i t
def xw(prog:Program)(w:World)(x:Str)(t:Tok):(di prog w).is (.inr x) (.str x t)=true:=Dz x t
def Vals.length(r:Vals xs us):xs.length=us.length:=nj r
theorem Vals.get:∀{xs:List V} {us:List Value} {i:Nat} {x:V},Vals xs us->xs[i]?=some x->∃u,us[i]?=some u/\RelV x u
 | _,_,_,_,.nil,e=>by simp at e
 | _,_,0,_,.cons r _,e=>by grind
 | _,_,i+1,x,.cons _ t,e=>by
  obtain⟨u,h1,h2⟩:=Vals.get t (by simpa using e)
  exact⟨u,by grind,h2⟩
theorem Vals.set(r:RelV x u):∀{xs:List V} {us:List Value} (i:Nat),Vals xs us->Vals (xs.set i x) (us.set i u)
 | _,_,_,.nil=>.nil
 | _,_,0,.cons _ t=>.cons r t
 | _,_,i+1,.cons q t=>.cons q (Vals.set r i t)
theorem Vals.append:∀{xs ys:List V} {us ws:List Value},Vals xs us->Vals ys ws->Vals (xs++ys) (us++ws)
 | _,_,_,_,.nil,s=>s
 | _,_,_,_,.cons r t,s=>.cons r (Vals.append t s)
theorem Vals.take:∀{xs:List V} {us:List Value} (n:Nat),Vals xs us->Vals (xs.take n) (us.take n)
 | _,_,0,_=>.nil
 | _,_,_+1,.nil=>.nil
 | _,_,n+1,.cons r t=>.cons r (Vals.take n t)
theorem Vals.drop:∀{xs:List V} {us:List Value} (n:Nat),Vals xs us->Vals (xs.drop n) (us.drop n)
 | _,_,0,r=>r
 | _,_,_+1,.nil=>.nil
 | _,_,n+1,.cons _ t=>Vals.drop n t
def Vals.none_of:∀{xs:List V} {us:List Value} {i:Nat},Vals xs us->xs[i]?=none->us[i]?=none:=λ{xs us i} r e=>by
 have h1:=r.length;have h2:=ia.mp e;exact ia.mpr (by lia)
def oh:Option V->Option Value->Prop
 | some v,some u=>RelV v u
 | none,none=>True
 | _,_=>False
def KV{κ:Type}:List (κ×V)->List (κ×Value)->Prop:=Paired fun(p:κ×V) (q:κ×Value)=>p.1=q.1/\RelV p.2 q.2
noncomputable def cU(H:Hp)(a:Addr)(o:HO):Hp:=λb=>if b=a then some o else H b
def aB:cU H a o a=some o:=by unfold cU;rw[if_pos rfl]
def aN(h:b≠a):cU H a o b=H b:=by unfold cU;rw[if_neg h]
def dj{H:Hp}{a b:Addr}{o:HO}(h:H a=some o)(h':H b=none):a≠b:=by
 grind
def oi(h:Heap)(a:Addr)(ax:Array Value):Prop:=∃o,h.get? a=some o/\o.cls=.type "tuple"/\(∃n,o.data=.seq ax n)/\o.dict=none
def oi.new(h:Heap)(ax:Array Value):oi (h.push {cls:=.type "tuple",data:=.seq ax}) h.objs.size ax:=⟨_,bL _ rfl,rfl,⟨_,rfl⟩,rfl⟩
def oi.is(t:oi h a ax):IsTup h a ax:=let ⟨o,e,c,n,_⟩:=t;⟨o,e,c,n⟩
section
variable (P:Program) (w:World)
def fS(H:Hp)(h:Heap)(a:Addr):HO->Prop
 | .lst xs=>xs.length<=sizeLine/\∃(ax:List Value) (n:Nat),Vals xs ax/\h.get? a=some {cls:=.type "list",data:=.seq ax.toArray n}
 | .au xs=>xs.length<=sizeLine/\∃ax:List Value,Vals xs ax/\oi h a ax.toArray
 | .dK kvs=>kvs.length<=sizeLine/\(a==sysModules)=false/\∃vs,KV kvs vs/\h.DictOf (di P w) a vs
 | .dT xs=>xs.length<=sizeLine/\(a==sysModules)=false/\∃o es ep,h.get? a=some o/\o.ExactDict/\o.data=.dict es ep/\es.toList=xs.map (entryOfKey (jD (di P w)))/\(xs.map (·.1)).Nodup
 | .set S n=>h.SetOf (intKind P w) a S n
 | .ins C dx fs=>H dx=some (.own a)/\fs.length<=1000/\dx≠a/\h.get? a=some (W.instObj C dx) /\
   ∃mA,h.Ns1 dx mA/\(∀f,oh (fs.lookup f) (mA f))/\PySem.Within mA (fs.map (·.1))
 | .own _=>∃o,h.get? a=some o
 | .xd fs=>∃mA,h.Ns1 a mA/\∀f,oh (fs.lookup f) (mA f)
 | .Xd lo hi=>∃t u v,h.get? a=some {cls:=.type "range",data:=.fields #[.int lo t,.int hi u,.int 1 v]}
 | .xm o u=>h.get? a=some o/\fS H h a u
 | .zZ q=>∃ps:Array Value,h.get? a=some {cls:=.none,data:=.fields ps}/\TriplesOk ps.toList/\∀(pos:Pos) (cv:Value),codeAmong pos ps.toList=some cv ->
   ∃(c:Addr) (oc:Obj) (u:HO) (vs:Array Value) (t:Tok),cv=.ref c/\H c=some (.xm oc u)/\oc.data=.fields vs/\vs[1]?=some (.str q t)
 | .Xc f x=>h.get? a=some (W.methodObj (.ref f) (.ref x))
 | .ext φ=>φ h/\(∃o,h.get? a=some o)/\∀h1 h2:Heap,φ h1->(∀o,h1.get? a=some o->h2.get? a=some o)->φ h2
def lF(H:Hp)(h:Heap):Prop:=∀a o,H a=some o->fS P w H h a o
end
section
variable {P:Program} {w:World} {H H':Hp} {h h':Heap} {a:Addr} {o:HO}
def fS.lt(x:fS P w H h a o):a<h.objs.size:=by
 cases o with
 | lst xs=>obtain⟨_,_,_,_,e⟩:=x;exact aI e
 | au xs=>obtain⟨_,_,_,p⟩:=x;exact p.is.lt
 | dK kvs=>obtain⟨_,_,_,_,o,_,_,e,_⟩:=x;exact aI e
 | dT kvs=>obtain⟨_,_,o,_,_,e,_⟩:=x;exact aI e
 | set S n=>obtain⟨o,_,_,_,e,_⟩:=x;exact aI e
 | ins C dx fs=>obtain⟨_,_,_,e,_⟩:=x;exact aI e
 | own y=>obtain⟨_,e⟩:=x;exact aI e
 | xd fs=>obtain⟨_,⟨_,_,_,e,_⟩,_⟩:=x;exact aI e
 | Xd lo hi=>obtain⟨_,_,_,e⟩:=x;exact aI e
 | xm ob u=>obtain⟨e,_⟩:=x;exact aI e
 | zZ q=>obtain⟨_,e,_⟩:=x;exact aI e
 | Xc f y=>exact aI (x)
 | ext φ=>obtain⟨_,⟨_,e⟩,_⟩:=x;exact aI e
def fS.xx(x:fS P w H h a o)(k:∀b u,(b=a\/H b=some (.own a))->h.get? b=some u->h'.get? b=some u)
  (ho:∀b,H b=some (.own a)->H' b=some (.own a)) (ht:∀b xs,H b=some (.au xs)->H' b=some (.au xs)) (hz:∀b ob u,H b=some (.xm ob u)->H' b=some (.xm ob u)):fS P w H' h' a o:=by
 induction o with
 | lst xs=>obtain⟨z,ax,n,r,e⟩:=x;exact⟨z,ax,n,r,k _ _ (.inl rfl) e⟩
 | au xs=>obtain⟨z,ax,r,ob,e,c⟩:=x;exact⟨z,ax,r,ob,k _ _ (.inl rfl) e,c⟩
 | dK kvs=>obtain⟨z,y,vs,r,ob,es,ep,e,c⟩:=x;exact⟨z,y,vs,r,ob,es,ep,k _ _ (.inl rfl) e,c⟩
 | dT kvs=>obtain⟨z,y,ob,es,ep,e,c⟩:=x;exact⟨z,y,ob,es,ep,k _ _ (.inl rfl) e,c⟩
 | set S n=>obtain⟨ob,es,ep,t,e,c⟩:=x;exact⟨ob,es,ep,t,k _ _ (.inl rfl) e,c⟩
 | ins C dx fs =>
  obtain⟨d,z,ne,e,mA,⟨od,es,ep,e2,c⟩,r⟩:=x;exact⟨ho _ d,z,ne,k _ _ (.inl rfl) e,mA,⟨od,es,ep,k _ _ (.inr d) e2,c⟩,r⟩
 | own y=>obtain⟨ob,e⟩:=x;exact⟨ob,k _ _ (.inl rfl) e⟩
 | xd fs=>obtain⟨mA,⟨od,es,ep,e,c⟩,r⟩:=x;exact⟨mA,⟨od,es,ep,k _ _ (.inl rfl) e,c⟩,r⟩
 | Xd lo hi=>obtain⟨t,u,v,e⟩:=x;exact⟨t,u,v,k _ _ (.inl rfl) e⟩
 | xm ob u ih=>obtain⟨e,q⟩:=x;exact⟨k _ _ (.inl rfl) e,ih q⟩
 | zZ q =>
  obtain⟨ps,e,t,c⟩:=x;exact⟨ps,k _ _ (.inl rfl) e,t,λpos cv z=>let ⟨c,oc,u,vs,tk,h1,h2,h3⟩:=c pos cv z;⟨c,oc,u,vs,tk,h1,hz _ _ _ h2,h3⟩⟩
 | Xc f y =>
  have e:=x;exact k a _ (.inl rfl) e
 | ext φ=>obtain⟨p,⟨o,e⟩,st⟩:=x;exact⟨st _ _ p λo q=>k _ _ (.inl rfl) q,⟨o,k _ _ (.inl rfl) e⟩,st⟩
def lF.lt(x:lF P w H h)(e:H a=some o):a<h.objs.size:=(x a o e).lt
def lF.fresh(x:lF P w H h)(e:h.objs.size<=a):H a=none:=by
 cases q:H a with
 | none=>rfl
 | some u=>exact absurd (cm (x.lt q) e) (fJ _)
def lF.kept(x:lF P w H h)(k:∀b u,h.get? b=some u->h'.get? b=some u):lF P w H h':=λa o e =>
 (x a o e).xx (λb u _ q=>k b u q) (λ_ q=>q) (λ_ _ q=>q) λ_ _ _ q=>q
def lF.laid(x:lF P w H h)(k:∀b u,h.get? b=some u->h'.get? b=some u)(hp:h.objs.size<=a)(new:fS P w (cU H a o) h' a o):lF P w (cU H a o) h':=λb u e=>by
 have hn:=x.fresh hp;by_cases hb:b=a
 ·subst hb;rw[aB]at e;cases e;exact new
 ·rw[aN hb]at e;exact(x b u e).xx (λc v _ q=>k c v q) (λc q=>by rw[aN (dj q hn)];exact q) (λc xs q=>by rw[aN (dj q hn)];exact q) λc ob v q=>by rw[aN (dj q hn)];exact q
end
def Rd.ok(r:Rd H a u)(x:lF P w H h):fS P w H h a u:=by
 rcases r with r | ⟨o,r⟩
 ·exact x a u r
 ·obtain⟨_,q⟩:=x a _ r;exact q
def Xe:Option HO->Prop
 | some (.lst _)=>True
 | some (.dK _)=>True
 | some (.dT _)=>True
 | some (.set _ _)=>True
 | some (.ins _ _ _)=>True
 | some (.ext _)=>True
 | _=>False
section
variable {P:Program} {w:World} {H:Hp} {h h':Heap} {x e:Addr} {o':HO}
def lF.write(ok:lF P w H h)(mu:Xe (H x))(he:e=x\/H e=some (.own x))(k:∀b u,b≠e->h.get? b=some u->h'.get? b=some u)(Sm:∃u,h'.get? e=some u)
  (new:fS P w (cU H x o') h' x o'):lF P w (cU H x o') h':=λb u q=>by
 have Te:∀c y,H c=some (.own y)->c≠x:=λc y r z=>by subst z;rw[r]at mu;exact mu
 have Yc:∀c xs,H c=some (.au xs)->c≠x:=λc xs r z=>by subst z;rw[r]at mu;exact mu
 have Yd:∀c ob v,H c=some (.xm ob v)->c≠x:=λc ob v r z=>by subst z;rw[r]at mu;exact mu
 by_cases hb:b=x
 ·subst hb;rw[aB]at q;cases q;exact new
 ·rw[aN hb]at q;by_cases Og:b=e
  ·have q':H b=some (.own x):=by
    rcases he with z | z
    ·exact absurd (Og.trans z) hb
    ·rw[Og];exact z
   rw[q]at q';cases q';obtain⟨v,hv⟩:=Sm;exact⟨v,by rw[Og];exact hv⟩
  ·refine(ok b u q).xx (λc v hc r=>k c v ?_ r) (λc r=>by rw[aN (Te c b r)];exact r) (λc xs r=>by rw[aN (Yc c xs r)];exact r) λc ob v r=>by rw[aN (Yd c ob v r)];exact r
   rcases hc with rfl | hc
   ·exact Og
   ·rintro rfl
    rcases he with z | z
    ·exact Te c b hc z
    ·rw[hc]at z;cases z;exact hb rfl
end
structure Un (fs ex:List Addr) (H H':Hp) (h h':Heap):Prop where
 keep:∀b o,h.get? b=some o->H b=none->b∉fs->b∉ex->h'.get? b=some o
 slot:∀b o,h.get? b=some o->H b=none->b∈fs->b∉ex->∃sl,h'.get? b=some {o with slots:=sl}
 free:∀b o,h.get? b=some o->H b=none->b∉ex->H' b=none
 there:∀b o,h.get? b=some o->b∉ex->∃o',h'.get? b=some o'
 tups:∀b xs,H b=some (.au xs)->H' b=some (.au xs)
 frzs:∀b o u,H b=some (.xm o u)->H' b=some (.xm o u)
 tbls:∀b q,H b=some (.zZ q)->H' b=some (.zZ q)
section
variable {fs MM ex ex':List Addr} {H H1 H2:Hp} {h h1 h2 h':Heap} {a x e:Addr} {o:HO}
def Un.any(u:Un fs ex H H1 h h1)(q:h.get? b=some ob)(n:H b=none)(hx:b∉ex):∃sl,h1.get? b=some {ob with slots:=sl}:=by
 by_cases hb:b∈fs
 ·exact u.slot b ob q n hb hx
 ·exact⟨ob.slots,u.keep b ob q n hb hx⟩
def Un.trans(a:Un fs ex H H1 h h1)(b:Un fs ex H1 H2 h1 h2):Un fs ex H H2 h h2 where
 keep:=λc ob q n hc hx=>b.keep c ob (a.keep c ob q n hc hx) (a.free c ob q n hx) hc hx
 slot:=λc ob q n hc hx=>by
  obtain⟨sl,e1⟩:=a.slot c ob q n hc hx;obtain⟨Tf,e2⟩:=b.slot c _ e1 (a.free c ob q n hx) hc hx;exact⟨Tf,e2⟩
 free:=λc ob q n hx=>by
  obtain⟨o',e1⟩:=a.there c ob q hx;exact b.free c o' e1 (a.free c ob q n hx) hx
 there:=λc ob q hx=>by
  obtain⟨o',e1⟩:=a.there c ob q hx;exact b.there c o' e1 hx
 tups:=λc xs q=>b.tups c xs (a.tups c xs q)
 frzs:=λc ob xs q=>b.frzs c ob xs (a.frzs c ob xs q)
 tbls:=λc q e=>b.tbls c q (a.tbls c q e)
def Un.kept(k:∀b u,h.get? b=some u->h'.get? b=some u):Un fs ex H H h h' :=
 ⟨λb ob q _ _ _=>k b ob q,λb ob q _ _ _=>⟨ob.slots,k b ob q⟩,λ_ _ _ n _=>n,λb ob q _=>⟨ob,k b ob q⟩,λ_ _ q=>q,λ_ _ _ q=>q,λ_ _ q=>q⟩
def Un.refl:Un fs ex H H h h:=Un.kept λ_ _ q=>q
def Un.laid(k:∀b u,h.get? b=some u->h'.get? b=some u)(hp:h.objs.size<=a)(hn:H a=none):Un fs ex H (cU H a o) h h' where
 keep:=λb u q _ _ _=>k b u q
 slot:=λb u q _ _ _=>⟨u.slots,k b u q⟩
 free:=λb u q n _=>by rw[aN (bC (cm (aI q) hp))];exact n
 there:=λb u q _=>⟨u,k b u q⟩
 tups:=λb xs q=>by rw[aN (dj q hn)];exact q
 frzs:=λb u xs q=>by rw[aN (dj q hn)];exact q
 tbls:=λb ps q=>by rw[aN (dj q hn)];exact q
def Un.write(mu:Xe (H x))(he:e=x\/H e=some (.own x))(k:∀b u,b≠e->h.get? b=some u->h'.get? b=some u)(Sm:∃u,h'.get? e=some u):Un fs ex H (cU H x o) h h':=by
 have hx:∀b,H b=none->b≠x:=λb n z=>by subst z;rw[n]at mu;exact mu
 have hb:∀b,H b=none->b≠e:=λb n z=>by
  subst z;rcases he with r | r
  ·exact hx b n r
  ·rw[n]at r;cases r
 have hm:∀b u,H b=some u->¬Xe (some u)->b≠x:=λb u q nm z=>by subst z;rw[q]at mu;exact nm mu
 refine⟨λb u q n _ _=>k b u (hb b n) q,λb u q n _ _=>⟨u.slots,k b u (hb b n) q⟩,λb u q n _=>by rw[aN (hx b n)];exact n,λb u q _=>?_,
  λb xs q=>by rw[aN (hm b _ q λz=>z)];exact q,λb u xs q=>by rw[aN (hm b _ q λz=>z)];exact q,λb ps q=>by rw[aN (hm b _ q λz=>z)];exact q⟩
 by_cases Og:b=e
 ·subst Og;exact Sm
 ·exact⟨u,k b u Og q⟩
end
noncomputable def Xf(h:Heap)(H:Hp):List Addr:=(List.range h.objs.size).filter λa=>(H a).isSome
def xy(h:Heap)(H:Hp):Heap:=W.hideAll h (Xf h H)
def DA(h:Heap)(H:Hp):(xy h H).objs.size=h.objs.size:=W.hideAll_size _ _
def hidT_get(e:h.get? b=some o)(n:H b=none):(xy h H).get? b=some o :=
 W.hideAll_get _ e λhm=>by
  have q:=(zY.mp hm).2;rw[n]at q;simp at q
def of_hidT(e:(xy h H).get? b=some o):h.get? b=some o/\H b=none:=by
 have e':=W.of_hideAll (Xf h H) e;refine⟨e',?_⟩;cases q:H b with
 | none=>rfl
 | some x =>
  have hm:b∈Xf h H:=zY.mpr ⟨u6.mpr (aI e'),by simp[q]⟩
  have z:(xy h H).get? b=none:=W.hideAll_none (Xf h H) hm;rw[z]at e;cases e
structure Mod (K:W.Frag) (mg:Str->Option Value) (base:Heap):Prop where
 kin:K.In base
 glob:base.Ns mainGlobals mg
 blt:∃mb,base.Ns builtinsNs mb/\∀x:Str,x≠"__name__"->mb x=bootBuiltins x
 nolimit:base.NoLimit
structure Cx where
 prog:Program
 w:World
 K:W.Frag
 mg:Str->Option Value
 base:Heap
 A:Around
 N:List Str
 s₀:Shared
 af:Hp
 env:Env
 aC:List Env
 stack:List Env
 ex:List Addr
 fn:Str->Bool
 calm:Bool
 pn:List (Addr×Obj)
 xe:Value->Shared->Prop
noncomputable def lL(l:List Env):List Addr:=l.filterMap (·.frame)
abbrev Cx.fs(X:Cx):List Addr:=lL X.aC
def Sn(sc:Scope)(x:Str):Prop:=sc.names.lookup x=some .local\/sc.names.lookup x=some .cell\/sc.names.lookup x=some .free
def MN(sc:Scope)(x:Str):Prop:=sc.names.lookup x=some .local\/sc.names.lookup x=some .cell
def Look(env:Env)(h:Heap)(m:Str->Option Value)(x:Str)(u:Value):Prop :=
 (env.kindOf x=some .local/\m x=some u)\/((env.kindOf x=some .cell\/env.kindOf x=some .free)/\∃c,env.cells.lookup x=some c/\h.IsCell c (some u))
noncomputable def JP(x:Str):Str:=x++".<locals>."++"<lambda>"
def qg(K:W.Frag)(H:Hp):Prop:=∀x∈dI,∀c T,W.tabIn K x=some (c,T)->H T=some (.zZ (JP x))
structure Cx.Ok (X:Cx):Prop where
 mod:Mod X.K X.mg X.base
 kind:X.env.scope.kind=.function
 glob:X.env.globals=mainGlobals
 blt:X.env.builtins=builtinsNs
 above:X.s₀.heap.objs.size<=X.env.locals
 inj:∀x y c,X.env.cells.lookup x=some c->X.env.cells.lookup y=some c->x=y
 has:∀x,(X.env.kindOf x=some .cell\/X.env.kindOf x=some .free)->∃c,X.env.cells.lookup x=some c
 cab:∀x c,X.fn x=true->X.env.cells.lookup x=some c->X.s₀.heap.objs.size<=c
 hd:X.calm=true->X.A.handled=none
 frames:X.A.frames=some X.stack
 stk:X.stack=X.aC\/(X.stack=X.env::X.aC/\X.env.frame=some X.env.locals)
 exf:∀b∈X.ex,b≠X.env.locals/\∀x c,X.env.cells.lookup x=some c->c≠b
 bs:∀b o,X.base.get? b=some o->X.s₀.heap.get? b=some o/\X.af b=none
 bsz:X.base.objs.size<=X.s₀.heap.objs.size
 noex:∀b o,X.base.get? b=some o->b∉X.ex
 exfs:∀b∈X.ex,b∉X.fs
 funs:X.s₀.heap.FunFrames X.base X.aC
 frf:∀b∈X.fs,X.af b=none
 tabs:qg X.K X.af
structure Inv (X:Cx) (ah:List (Addr×Obj)) (σ:List (Option V)) (H:Hp) (s:Shared):Prop where
 ok:X.Ok
 os:s.os=X.s₀.os
 bare:AllBare s.gens
 base:Un X.fs X.ex X.af H X.s₀.heap s.heap
 loc:∃m,s.heap.Ns X.env.locals m/\∀(i:Nat) (x:Str) (v:V),X.N[i]?=some x->σ[i]?=some (some v)->Sn X.env.scope x->∃u,RelV v u/\Look X.env s.heap m x u
 cell:∀x c,X.env.cells.lookup x=some c->∃v,s.heap.IsCell c v
 free:H X.env.locals=none
 freeC:∀x c,X.env.cells.lookup x=some c->H c=none
 pin:∀p∈X.pn++ah,s.heap.get? p.1=some p.2/\H p.1=none/\p.1≠X.env.locals/\p.1∉X.fs/\∀v,p.2.data≠.cell v
 hok:lF X.prog X.w H s.heap
 len:σ.length=X.N.length
section
variable {X:Cx} {ah:List (Addr×Obj)} {σ:List (Option V)} {H H':Hp} {s:Shared} {h':Heap}
def Cx.Ok.Ye(ok:X.Ok)(e:X.base.get? b=some o):b∉X.fs:=λhb=>by
 have:=(ok.funs.mem hb).1;rw[e]at this;cases this
def Inv.bs(I:Inv X ah σ H s):∀b o,X.base.get? b=some o->s.heap.get? b=some o/\H b=none:=λb o e =>
 ⟨I.base.keep b o (I.ok.bs b o e).1 (I.ok.bs b o e).2 (I.ok.Ye e) (I.ok.noex b o e),I.base.free b o (I.ok.bs b o e).1 (I.ok.bs b o e).2 (I.ok.noex b o e)⟩
def Inv.bk(I:Inv X ah σ H s):∀b o,X.base.get? b=some o->s.heap.get? b=some o:=λb o e=>(I.bs b o e).1
def Inv.mod(I:Inv X ah σ H s):Mod X.K X.mg X.base:=I.ok.mod
def Inv.oj(I:Inv X ah σ H s):X.K.In s.heap:=I.ok.mod.kin.keeps I.bk
def Inv.lt(I:Inv X ah σ H s):X.env.locals<s.heap.objs.size:=let ⟨_,hn,_⟩:=I.loc;hn.lt
def Inv.sz(I:Inv X ah σ H s):X.s₀.heap.objs.size<=s.heap.objs.size:=aR I.ok.above (pZ I.lt)
def Inv.Yg(I:Inv X ah σ H s){a:Addr}(h:s.heap.objs.size<=a):a∉X.fs:=λhb=>by
 obtain⟨_,o,ho,_⟩:=I.ok.funs.mem hb;exact absurd (cm (aI ho) (aR I.sz h)) (fJ _)
def Inv.Oh(I:Inv X ah σ H s):∀x c,X.env.cells.lookup x=some c->c≠X.env.locals:=λx c e z=>by
 obtain⟨v,o,ho,hd⟩:=I.cell x c e;obtain⟨m,⟨o',es,ep,mP,EW,_⟩,_⟩:=I.loc;rw[z,mP]at ho;cases ho;rw[EW]at hd;cases hd
def Inv.funs(I:Inv X ah σ H s):s.heap.FunFrames X.base X.aC:=by
 have all:∀l,(∀b∈lL l,b∈X.fs)->X.s₀.heap.FunFrames X.base l->s.heap.FunFrames X.base l:=by
  intro l;induction l with
  | nil=>intro _ _;trivial
  | cons env r ih =>
   intro hs hl;obtain⟨hk,⟨L,o,hf,hn,ho,hd⟩,hr⟩:=hl;have hL:=hs L (by unfold lL;rw[zC,hf];exact du)
   obtain⟨sl,e⟩:=I.base.slot L o ho (I.ok.frf L hL) hL λz=>I.ok.exfs L z hL
   exact⟨hk,⟨L,_,hf,hn,e,hd⟩,ih (λb hb=>hs b (by unfold lL;rw[zC,hf];exact cG _ hb)) hr⟩
 exact all X.aC (λ_ hb=>hb) I.ok.funs
def Inv.stack(I:Inv X ah σ H s):s.heap.FunFrames X.base X.stack:=by
 rcases I.ok.stk with e | ⟨e,hf⟩
 ·rw[e];exact I.funs
 ·rw[e];obtain⟨m,hn,_⟩:=I.loc;refine .cons (by rw[I.ok.kind];decide) hf hn ?_ I.funs
  exact Heap.get?_none_of_le (aR I.ok.bsz I.ok.above)
def Inv.vq(I:Inv X ah σ H s):∀b∈lL X.stack,b∈X.env.locals::X.fs:=λb hb=>by
 rcases I.ok.stk with e | ⟨e,hf⟩
 ·rw[e]at hb;exact cG _ hb
 ·rw[e]at hb;unfold lL at hb;rw[zC,hf]at hb;exact hb
def Inv.vt(I:Inv X ah σ H s):∀b∈lL X.stack,H b=none:=λb hb=>by
 rcases aG.mp (I.vq b hb)with e | hb
 ·rw[e];exact I.free
 ·obtain⟨_,o,ho,_⟩:=I.ok.funs.mem hb;exact I.base.free b o ho (I.ok.frf b hb) λz=>I.ok.exfs b z hb
def Inv.tabs(I:Inv X ah σ H s):qg X.K H:=λx hx c T e=>I.base.tbls T _ (I.ok.tabs x hx c T e)
def Inv.step{g':Array GenState}{t':Nat}{d':Drawn}{ch:List Addr}(I:Inv X ah σ H s)
  (MO:∀b∈ch,(b∈X.ex\/X.s₀.heap.objs.size<=b)/\b≠X.env.locals/\(∀x c,X.env.cells.lookup x=some c->c≠b)/\∀p∈X.pn++ah,p.1≠b)
  (keep:∀b o,b≠X.env.locals->b∉X.fs->b∉ch->s.heap.get? b=some o->H b=none->h'.get? b=some o)
  (slot:∀b o,b≠X.env.locals->b∈X.fs->b∉ch->s.heap.get? b=some o->H b=none->∃sl,h'.get? b=some {o with slots:=sl}) (free:∀b o,b∉ch->s.heap.get? b=some o->H b=none->H' b=none)
  (there:∀b o,b∉ch->s.heap.get? b=some o->∃o',h'.get? b=some o')
  (tups:∀b xs,H b=some (.au xs)->H' b=some (.au xs)) (frzs:∀b o u,H b=some (.xm o u)->H' b=some (.xm o u)) (tbls:∀b q,H b=some (.zZ q)->H' b=some (.zZ q))
  (ns:∀m,s.heap.Ns X.env.locals m->h'.Ns X.env.locals m) (hok:lF X.prog X.w H' h') (hg:AllBare g') :
  Inv X ah σ H' {s with heap:=h',gens:=g',drawn:=d',toks:=t'}:=by
 have neL:∀b o,X.s₀.heap.get? b=some o->b≠X.env.locals:=λb o e=>bC (cm (aI e) I.ok.above)
 have Xg:∀b o,X.s₀.heap.get? b=some o->b∉X.ex->b∉ch:=λb o e hx hb=>by
  rcases(MO b hb).1 with z | z
  ·exact hx z
  ·exact absurd (cm (aI e) z) (fJ _)
 have cellK:∀x c,X.env.cells.lookup x=some c->∀v,s.heap.IsCell c v->h'.IsCell c v:=by
  rintro x c e v ⟨o,ho,hd⟩
  have Th:c∉ch:=by grind
  by_cases hc:c∈X.fs
  ·obtain⟨sl,q⟩:=slot c o (I.Oh x c e) hc Th ho (I.freeC x c e);exact⟨_,q,hd⟩
  ·exact⟨o,keep c o (I.Oh x c e) hc Th ho (I.freeC x c e),hd⟩
 refine⟨I.ok,I.os,hg,⟨λb o e n hb hx=>?_,λb o e n hb hx=>?_,λb o e n hx=>?_,λb o e hx=>?_,λb xs e=>tups b xs (I.base.tups b xs e),λb o xs e=>frzs b o xs (I.base.frzs b o xs e),λb ps e=>?_⟩,?_,λx c e=>?_,?_,λx c e=>?_,λp hp=>?_,hok,I.len⟩
 ·exact keep b o (neL b o e) hb (Xg b o e hx) (I.base.keep b o e n hb hx) (I.base.free b o e n hx)
 ·obtain⟨sl,e1⟩:=I.base.slot b o e n hb hx;obtain⟨Tf,e2⟩:=slot b _ (neL b o e) hb (Xg b o e hx) e1 (I.base.free b o e n hx);exact⟨Tf,e2⟩
 ·obtain⟨o',e1⟩:=I.base.there b o e hx;exact free b o' (Xg b o e hx) e1 (I.base.free b o e n hx)
 ·obtain⟨o',e1⟩:=I.base.there b o e hx;exact there b o' (Xg b o e hx) e1
 ·exact tbls b ps (I.base.tbls b ps e)
 ·obtain⟨m,hn,hl⟩:=I.loc;refine⟨m,ns m hn,λi x v e1 e2 e3=>?_⟩
  obtain⟨u,r,l⟩:=hl i x v e1 e2 e3;refine⟨u,r,?_⟩;rcases l with l | ⟨k,c,e,z⟩
  ·exact .inl l
  ·exact .inr ⟨k,c,e,cellK x c e _ z⟩
 ·obtain⟨v,z⟩:=I.cell x c e;exact⟨v,cellK x c e v z⟩
 ·obtain⟨m,⟨o,_,_,ho,_⟩,_⟩:=I.loc;exact free _ o (λz=>(MO _ z).2.1 rfl) ho I.free
 ·obtain⟨v,o,ho,hd⟩:=I.cell x c e;exact free c o (λz=>(MO c z).2.2.1 x c e rfl) ho (I.freeC x c e)
 ·obtain⟨e,n,ne,nf,d⟩:=I.pin p hp;have Th:p.1∉ch:=by grind
  exact⟨keep p.1 p.2 ne nf Th e n,free p.1 p.2 Th e n,ne,nf,d⟩
def Inv.un{t':Nat}(I:Inv X ah σ H s)(u:Un X.fs [] H H' s.heap h')(hok:lF X.prog X.w H' h'):Inv X ah σ H' {s with heap:=h',toks:=t'}:=by
 obtain⟨m,⟨o,es,ep,ho,r⟩,_⟩:=id I.loc;obtain⟨sl,hL⟩:=u.any ho I.free (by simp)
 exact I.step (ch:=[]) (λ_ z=>nomatch z) (λb o _ hb _ e n=>u.keep b o e n hb (by simp)) (λb o _ hb _ e n=>u.slot b o e n hb (by simp)) (λb o _ e n=>u.free b o e n (by simp)) (λb o _ e=>u.there b o e (by simp)) u.tups u.frzs u.tbls (λm' hm=>by
  obtain⟨o',So,Yh,mP,r'⟩:=hm;rw[ho]at mP;cases mP;exact⟨_,So,Yh,hL,r'⟩) hok I.bare
def Inv.call{g':Array GenState}{t':Nat}{d':Drawn}{ch:List Addr}(I:Inv X ah σ H s)(u:Un (lL X.stack) ch H H' s.heap h')(hok:lF X.prog X.w H' h')(hg:AllBare g')
  (MO:∀b∈ch,(b∈X.ex\/X.s₀.heap.objs.size<=b)/\b≠X.env.locals/\(∀x c,X.env.cells.lookup x=some c->c≠b)/\∀p∈X.pn++ah,p.1≠b) :
  Inv X ah σ H' {s with heap:=h',gens:=g',drawn:=d',toks:=t'}:=by
 obtain⟨m,⟨o,es,ep,ho,r⟩,_⟩:=id I.loc;obtain⟨sl,hL⟩:=u.any ho I.free λz=>(MO _ z).2.1 rfl
 exact I.step MO (λb o hL hb hc e n=>u.keep b o e n (λz=>(aG.mp (I.vq b z)).elim hL hb) hc) (λb o _ _ hc e n=>u.any e n hc) (λb o hc e n=>u.free b o e n hc) (λb o hc e=>u.there b o e hc) u.tups u.frzs u.tbls (λm' hm=>by
  obtain⟨o',So,Yh,mP,r'⟩:=hm;rw[ho]at mP;cases mP;exact⟨_,So,Yh,hL,r'⟩) hok hg
def Inv.turned{t':Nat}(I:Inv X ah σ H s)(k:∀b o,b≠it->s.heap.get? b=some o->h'.get? b=some o)(hn:H it=none)(hL:it≠X.env.locals)
  (h1:it∈X.ex\/X.s₀.heap.objs.size<=it) (h2:∀x c,X.env.cells.lookup x=some c->c≠it) (h3:∀p∈X.pn++ah,p.1≠it):Inv X ah σ H {s with heap:=h',toks:=t'}:=by
 have Ti:∀b u,H b=some u->b≠it:=λb u e z=>by rw[z,hn]at e;cases e
 refine I.step (ch:=[it]) (λb hb=>?_) (λb o _ _ hc e _=>k b o (λz=>hc (by simp[z])) e) (λb o _ _ hc e _=>⟨o.slots,k b o (λz=>hc (by simp[z])) e⟩) (λ_ _ _ _ n=>n)
  (λb o hc e=>⟨o,k b o (λz=>hc (by simp[z])) e⟩) (λ_ _ e=>e) (λ_ _ _ e=>e) (λ_ _ e=>e) (λm hm=>?_) (λb u e=>?_) I.bare
 ·have e:b=it:=by simpa using hb
  subst e;exact⟨h1,hL,h2,h3⟩
 ·obtain⟨o,es,ep,ho,r⟩:=hm;exact⟨o,es,ep,k _ o (bU hL) ho,r⟩
 ·refine(I.hok b u e).xx (λc v hc q=>k c v ?_ q) (λ_ q=>q) (λ_ _ q=>q) λ_ _ _ q=>q
  rcases hc with z | z
  ·rw[z];exact Ti b u e
  ·exact Ti c _ z
def Inv.tok(I:Inv X ah σ H s)(t:Nat):Inv X ah σ H {s with toks:=t}:=I.un Un.refl I.hok
def Inv.kept(I:Inv X ah σ H s)(k:∀b u,s.heap.get? b=some u->h'.get? b=some u):Inv X ah σ H {s with heap:=h',toks:=t'}:=I.un (Un.kept k) (I.hok.kept k)
def Inv.laid{a:Addr}{o:HO}{t':Nat}(I:Inv X ah σ H s)(k:∀b u,s.heap.get? b=some u->h'.get? b=some u)(hp:s.heap.objs.size<=a)(new:fS X.prog X.w (cU H a o) h' a o) :
  Inv X ah σ (cU H a o) {s with heap:=h',toks:=t'}:=I.un (Un.laid k hp (I.hok.fresh hp)) (I.hok.laid k hp new)
def Inv.write(I:Inv X ah σ H s)(mu:Xe (H x))(he:e=x\/H e=some (.own x))(k:∀b u,b≠e->s.heap.get? b=some u->h'.get? b=some u)(Sm:∃u,h'.get? e=some u)
  (new:fS X.prog X.w (cU H x o) h' x o):Inv X ah σ (cU H x o) {s with heap:=h',toks:=t'}:=I.un (Un.write mu he k Sm) (I.hok.write mu he k Sm new)
def Inv.lM(I:Inv X ah σ H s)(h:∀p∈Tj,s.heap.get? p.1=some p.2/\H p.1=none/\p.1≠X.env.locals/\p.1∉X.fs/\∀v,p.2.data≠.cell v):Inv X Tj σ H s :=
 ⟨I.ok,I.os,I.bare,I.base,I.loc,I.cell,I.free,I.freeC,λp hp=>(cH.mp hp).elim (λz=>I.pin p (mV _ z)) (h p),I.hok,I.len⟩
def xA{N:List Str}(hN:N.Nodup){i j:Nat}(a:N[i]?=some x)(b:N[j]?=some x):i=j:=by
 obtain⟨h1,e1⟩:=dF.mp a;obtain⟨h2,e2⟩:=dF.mp b;exact(List.getElem_inj hN).mp (e1.trans e2.symm)
def store_ok2{M:Model}{A:Around}{E:Value->Shared->Prop}{i:Nat}{v:V}{u:Value}{Q:Unit->Shared->Prop}(I:Inv X ah σ H s)(hN:X.N.Nodup)(hi:X.N[i]?=some x)(hx:MN X.env.scope x)(r:RelV v u)
  (h:∀s',Inv X ah (σ.set i (some v)) H s'->(∃a,Heap.SameBut a s.heap s'.heap/\(a=X.env.locals\/X.env.cells.lookup x=some a))->Q () s') (hf:X.fn x=true\/X.env.scope.names.lookup x=some .local):wpAny M A (storeName X.env x u) Q E s:=by
 obtain⟨m,hn,hl⟩:=id I.loc;have Yi:(X.env.scope.kind==.class || (X.env.scope.kind==.module&&X.env.locals != X.env.globals))=false:=by rw[I.ok.kind];rfl
 have Tn:i<σ.length:=by rw[I.len];exact(dF.mp hi).1
 have Oh:=I.Oh;have BI:∀{a:Addr} {h':Heap},(∃o,s.heap.get? a=some o/\H a=none)->Heap.SameBut a s.heap h'->lF X.prog X.w H h':=λ{a h'} ha hs b ob e=>by
  obtain⟨_,_,xB⟩:=ha;refine(I.hok b ob e).xx (λc w' hc q=>(hs.2 c ?_).trans q) (λ_ q=>q) (λ_ _ q=>q) λ_ _ _ q=>q
  rintro rfl
  rcases hc with rfl | hc
  ·grind
  ·grind
 rcases hx with hk | hk
 ·refine wpAny_storeName_local hk hn (λh' hn' hs=>?_) Yi
  obtain⟨oL,_,_,hoL,_⟩:=id hn;refine h _ ⟨I.ok,I.os,I.bare,⟨λb o e n hb hx=>?_,λb o e n hb hx=>?_,I.base.free,λb o e hx=>?_,I.base.tups,I.base.frzs,I.base.tbls⟩,⟨_,hn',λj y v' e1 e2 e3=>?_⟩,λy c e=>?_,I.free,I.freeC,λp hp=>?_,BI ⟨oL,hoL,I.free⟩ hs,by simpa using I.len⟩ ⟨_,hs,.inl rfl⟩
  ·exact(hs.2 b (bC (cm (aI e) I.ok.above))).trans (I.base.keep b o e n hb hx)
  ·obtain⟨sl,e1⟩:=I.base.slot b o e n hb hx;exact⟨sl,(hs.2 b (bC (cm (aI e) I.ok.above))).trans e1⟩
  ·obtain⟨o',e1⟩:=I.base.there b o e hx;exact⟨o',(hs.2 b (bC (cm (aI e) I.ok.above))).trans e1⟩
  ·by_cases hj:j=i
   ·subst hj;rw[hi]at e1;cases e1;rw[uI Tn]at e2;cases e2;exact⟨u,r,.inl ⟨hk,by simp⟩⟩
   ·rw[bY (bU hj)]at e2;obtain⟨u',r',q⟩:=hl j y v' e1 e2 e3;refine⟨u',r',?_⟩;rcases q with⟨k,e⟩ | ⟨k,c,e,z⟩
    ·refine .inl ⟨k,?_⟩;have:y≠x:=λe=>hj (xA hN e1 (e▸hi))
     simp[this,e]
    ·exact .inr ⟨k,c,e,z.sameBut hs (Oh y c e)⟩
  ·obtain⟨w',z⟩:=I.cell y c e;exact⟨w',z.sameBut hs (Oh y c e)⟩
  ·obtain⟨e,n,ne,nf,d⟩:=I.pin p hp;exact⟨(hs.2 p.1 ne).trans e,n,ne,nf,d⟩
 ·have To:X.fn x=true:=by
   grind
  obtain⟨c,hc⟩:=I.ok.has x (.inl hk);obtain⟨w',z⟩:=I.cell x c hc;refine wpAny_storeName_cell I.ok.kind hk hc z (λh' EX hs=>?_)
  obtain⟨oc,hoc,ac3⟩:=id z;refine h {s with heap:=h'} ⟨I.ok,I.os,I.bare,⟨λb o e n hb hx=>?_,λb o e n hb hx=>?_,I.base.free,λb o e hx=>?_,I.base.tups,I.base.frzs,I.base.tbls⟩,⟨m,hn.sameBut hs (bU (Oh x c hc)),λj y v' e1 e2 e3=>?_⟩,λy c' e=>?_,I.free,I.freeC,λp hp=>?_,BI ⟨oc,hoc,I.freeC x c hc⟩ hs,by simpa using I.len⟩ ⟨c,hs,.inr hc⟩
  ·exact(hs.2 b (bC (cm (aI e) (I.ok.cab x c To hc)))).trans (I.base.keep b o e n hb hx)
  ·obtain⟨sl,e1⟩:=I.base.slot b o e n hb hx;exact⟨sl,(hs.2 b (bC (cm (aI e) (I.ok.cab x c To hc)))).trans e1⟩
  ·obtain⟨o',e1⟩:=I.base.there b o e hx;exact⟨o',(hs.2 b (bC (cm (aI e) (I.ok.cab x c To hc)))).trans e1⟩
  ·by_cases hj:j=i
   ·subst hj;rw[hi]at e1;cases e1;rw[uI Tn]at e2;cases e2;exact⟨u,r,.inr ⟨.inl hk,c,hc,EX⟩⟩
   ·rw[bY (bU hj)]at e2;obtain⟨u',r',q⟩:=hl j y v' e1 e2 e3;refine⟨u',r',?_⟩;rcases q with q | ⟨k,c',e,z'⟩
    ·exact .inl q
    ·refine .inr ⟨k,c',e,z'.sameBut hs ?_⟩
     rintro rfl
     exact hj (xA hN e1 (I.ok.inj _ _ _ e hc▸hi))
  ·by_cases Oi:c'=c
   ·grind
   ·obtain⟨w2,z2⟩:=I.cell y c' e;exact⟨w2,z2.sameBut hs Oi⟩
  ·obtain⟨e,n,ne,nf,d⟩:=I.pin p hp;refine⟨(hs.2 p.1 ?_).trans e,n,ne,nf,d⟩;intro q;rw[q,hoc]at e;have q':=aZ e;exact d w' (by grind)
def qh(I:Inv X ah σ H s)(hN:X.N.Nodup)(hi:X.N[i]?=some x)(hx:MN X.env.scope x)(r:RelV v u)
  (h:∀s',Inv X ah (σ.set i (some v)) H s'->Q () s') (hf:X.fn x=true\/X.env.scope.names.lookup x=some .local):wpAny M A (storeName X.env x u) Q E s :=
 store_ok2 I hN hi hx r (λs' I' _=>h s' I') hf
def Inv.MP(I:Inv X ah σ H s)(ho:s'.os=s.os)(u:Un (lL X.stack) ch H H' s.heap s'.heap)(hok:lF X.prog X.w H' s'.heap)(hg:AllBare s'.gens)
  (MO:∀b∈ch,(b∈X.ex\/X.s₀.heap.objs.size<=b)/\b≠X.env.locals/\(∀x c,X.env.cells.lookup x=some c->c≠b)/\∀p∈X.pn++ah,p.1≠b):Inv X ah σ H' s':=by
 obtain⟨h',g',d',t',o'⟩:=s';have e:=ho;subst e;exact I.call u hok hg MO
end
abbrev XK:=Value->Option Addr->Hp->Prop
abbrev St:=List (Option V)
abbrev VK:=V->Hp->Prop
abbrev TE:=St->Hp->VK->Prop
abbrev TT:=St->Hp->(Bool->Hp->Prop)->Prop
abbrev TA:=St->Hp->(List V->Hp->Prop)->Prop
structure xC where
 nx:St->Hp->Prop
 rt:VK
 bk:St->Hp->Prop:=λ_ _=>False
 ct:St->Hp->Prop:=λ_ _=>False
abbrev TS:=xC->St->Hp->Prop
def EP(X:Cx)(ah:List (Addr×Obj))(σ:St)(Q:VK)(u:Value)(s':Shared):Prop:=∃v H',Inv X ah σ H' s'/\RelV v u/\Q v H'
def TP(X:Cx)(ah:List (Addr×Obj))(σ:St)(Q:Bool->Hp->Prop)(b:Bool)(s':Shared):Prop:=∃H',Inv X ah σ H' s'/\Q b H'
def AP(X:Cx)(ah:List (Addr×Obj))(σ:St)(Q:List V->Hp->Prop)(us:List Value)(s':Shared):Prop:=∃vs H',Inv X ah σ H' s'/\Vals vs us/\Q vs H'
def SP(X:Cx)(ah:List (Addr×Obj))(D:xC)(f:Flow)(s':Shared):Prop :=
 match f with
 | .next=>∃bF H',Inv X ah bF H' s'/\D.nx bF H'
 | .brk=>∃bF H',Inv X ah bF H' s'/\D.bk bF H'
 | .cont=>∃bF H',Inv X ah bF H' s'/\D.ct bF H'
 | .ret u=>∃v bF H',Inv X ah bF H' s'/\RelV v u/\D.rt v H'
def PE(X:Cx)(e:Expr)(t:TE):Prop :=
 ∀(ah:List (Addr×Obj)) (s:Shared) (σ:St) (H:Hp) (Q:VK),Inv X ah σ H s->t σ H Q->wpAny (model X.prog X.w) X.A (eval e X.env) (EP X ah σ Q) X.xe s
def PT(X:Cx)(e:Expr)(t:TT):Prop :=
 ∀(ah:List (Addr×Obj)) (s:Shared) (σ:St) (H:Hp) (Q:Bool->Hp->Prop),Inv X ah σ H s->t σ H Q->wpAny (model X.prog X.w) X.A (isTrue e X.env (eval e X.env)) (TP X ah σ Q) X.xe s
def PW(X:Cx)(e:Expr)(t:TT):Prop :=
 ∀(i6:Sem Value) (ah:List (Addr×Obj)) (s:Shared) (σ:St) (H:Hp) (Q:Bool->Hp->Prop),Inv X ah σ H s->t σ H Q->wpAny (model X.prog X.w) X.A (isTrue e X.env i6) (TP X ah σ Q) X.xe s
def PW.pt(h:PW X e t):PT X e t:=h _
def PA(X:Cx)(es:List Expr)(t:TA):Prop :=
 ∀(pos:Pos) (ah:List (Addr×Obj)) (s:Shared) (σ:St) (H:Hp) (Q:List V->Hp->Prop),Inv X ah σ H s->t σ H Q->wpAny (model X.prog X.w) X.A (spliced (backTo pos (starEach es X.env))) (AP X ah σ Q) X.xe s
def PS(X:Cx)(st:Stmt)(t:TS):Prop :=
 ∀(ah:List (Addr×Obj)) (s:Shared) (σ:St) (H:Hp) (D:xC),Inv X ah σ H s->t D σ H->wpAny (model X.prog X.w) X.A (exec st X.env) (SP X ah D) X.xe s
def PSs(X:Cx)(st:List Stmt)(t:TS):Prop :=
 ∀(ah:List (Addr×Obj)) (s:Shared) (σ:St) (H:Hp) (D:xC),Inv X ah σ H s->t D σ H->wpAny (model X.prog X.w) X.A (execs st X.env) (SP X ah D) X.xe s
def thn{α:Type}{t:Sem α}{Q Q':α->Shared->Prop}{M:Model}{A:Around}{E:Value->Shared->Prop}(h:wpAny M A t Q E s)(hQ:∀a s,Q a s->Q' a s):wpAny M A t Q' E s:=jz h hQ λ_ _ x=>x
section
variable {X:Cx}
def JQ(i:Nat):TE:=λσ H Q=>∃v,σ[i]?=some (some v)/\Q v H
def tC(v:V):TE:=λ_ H Q=>Q v H
def pe_var{i:Nat}{x:Str}{pos:Pos}(hN:X.N[i]?=some x)(hv:Sn X.env.scope x)(hd:(x==("__debug__":Str))=false:=by decide)(w6:(x==("__classdict__":Str))=false:=by decide):PE X (.Name x pos) (JQ i):=by
 intro ah s σ H Q I h;obtain⟨v,e,h⟩:=h;obtain⟨m,hn,hl⟩:=I.loc;obtain⟨u,r,l⟩:=hl i x v hN e hv;have iJ:EP X ah σ Q u s:=⟨v,H,I,r,h⟩;rcases l with⟨hk,hm⟩ | ⟨hk,c,hc,td⟩
 ·exact wpAny_Name (wpAny_loadName_local I.ok.kind hk hn hm iJ) hd
 ·rcases hk with hk | hk
  ·exact wpAny_Name (wpAny_loadName_cell I.ok.kind hk hc td iJ) hd
  ·exact wpAny_Name (wpAny_loadName_free I.ok.kind hk hc td iJ w6) hd
def Oj{i j pos}:PE X (.Constant (.int i) j pos) (tC (.int i)):=λ_ _ _ H _ I h=>wpAny_Constant_int ⟨.int i,H,I.tok _,⟨_,rfl⟩,h⟩
def Tp{b j pos}:PE X (.Constant (.bool b) j pos) (tC (.bl b)):=λ_ _ _ H _ I h=>Constant_bool ⟨.bl b,H,I,rfl,h⟩
def Ol{j pos}:PE X (.Constant .none j pos) (tC .aL):=λ_ _ _ H _ I h=>Constant_none ⟨.aL,H,I,rfl,h⟩
def Om{x j pos}:PE X (.Constant (.str x) j pos) (tC (.str x)):=λ_ _ _ H _ I h=>Calls.Constant_str ⟨.str x,H,I.tok _,⟨_,rfl⟩,h⟩
def Gl(X:Cx)(x:Str):Prop:=X.env.kindOf x=some .globalImplicit
def ld_glob{E:Value->Shared->Prop}{ah:List (Addr×Obj)}{s:Shared}{σ:St}{H:Hp}{x:Str}{u:Value}{pos:Pos}{Q:Value->Shared->Prop}(I:Inv X ah σ H s)(hg:Gl X x)(hm:X.mg x=some u)(h:Q u s)
  (hd:(x==("__debug__":Str))=false:=by decide):wpAny (model X.prog X.w) X.A (eval (.Name x pos) X.env) Q E s :=
 Fe I.ok.kind hg (Calls.loadGlobal_global (by rw[I.ok.glob];exact I.mod.glob.keeps I.bk) hm h) hd
def ld_blt{E:Value->Shared->Prop}{ah:List (Addr×Obj)}{s:Shared}{σ:St}{H:Hp}{x:Str}{u:Value}{pos:Pos}{Q:Value->Shared->Prop}(I:Inv X ah σ H s)(hg:Gl X x)(hm:X.mg x=none)(hv:bootBuiltins x=some u)(h:Q u s)
  (hn:x≠"__name__":=by decide) (hd:(x==("__debug__":Str))=false:=by decide):wpAny (model X.prog X.w) X.A (eval (.Name x pos) X.env) Q E s:=by
 obtain⟨mb,h1,h2⟩:=I.mod.blt;exact Fe I.ok.kind hg (Calls.loadGlobal_builtin (by rw[I.ok.glob];exact I.mod.glob.keeps I.bk) hm (by rw[I.ok.blt];exact h1.keeps I.bk) ((h2 x hn).trans hv) h) hd
def vw(hg:Gl X x)(hm:X.mg x=some u)(r:RelV v u)(hd:(x==("__debug__":Str))=false:=by decide):PE X (.Name x pos) (tC v) :=
 λ_ _ _ H _ I h=>ld_glob I hg hm ⟨v,H,I,r,h⟩ hd
def JR{x:Str}{v:V}{u:Value}{pos:Pos}(hg:Gl X x)(hm:X.mg x=none)(hv:bootBuiltins x=some u)(r:RelV v u)(hn:x≠"__name__":=by decide)(hd:(x==("__debug__":Str))=false:=by decide):PE X (.Name x pos) (tC v) :=
 λ_ _ _ H _ I h=>ld_blt I hg hm hv ⟨v,H,I,r,h⟩ hn hd
variable {a b:Expr} {ta tb:TE} {pos:Pos}
variable {tA Xh:TT} {rest:List Expr}
def Yj(t u:TT):TT:=λσ H Q=>t σ H λc H1=>if c=true then u σ H1 Q else Q false H1
def tOr(t u:TT):TT:=λσ H Q=>t σ H λc H1=>if c=true then Q true H1 else u σ H1 Q
def Yk(t:TT):TT:=λσ H Q=>t σ H λc H1=>Q (!c) H1
def JS(ha:PT X a tA):PW X (.BoolOp .And [a] pos) tA:=by
 intro wh ah s σ H Q I h;refine isTrue_and (thn (ha ah s σ H Q I h) λc s1 e=>?_)
 cases c with
 | true=>exact isTrue_and_nil e
 | false=>exact e
def Oo(ha:PT X a tA):PW X (.BoolOp .Or [a] pos) tA:=by
 intro wh ah s σ H Q I h;refine isTrue_or (thn (ha ah s σ H Q I h) λc s1 e=>?_)
 cases c with
 | false=>exact isTrue_or_nil e
 | true=>exact e
def Oq(ha:PT X a tA)(hb:PW X (.BoolOp .And (b::rest) pos) Xh):PW X (.BoolOp .And (a::b::rest) pos) (Yj tA Xh):=by
 intro wh ah s σ H Q I h;refine isTrue_and (thn (ha ah s σ H _ I h) λc s1 ⟨H1,I1,q1⟩=>?_)
 cases c with
 | true=>exact hb wh ah s1 σ H1 Q I1 q1
 | false=>exact⟨H1,I1,q1⟩
def Tq(ha:PT X a tA)(hb:PW X (.BoolOp .Or (b::rest) pos) Xh):PW X (.BoolOp .Or (a::b::rest) pos) (tOr tA Xh):=by
 intro wh ah s σ H Q I h;refine isTrue_or (thn (ha ah s σ H _ I h) λc s1 ⟨H1,I1,q1⟩=>?_)
 cases c with
 | true=>exact⟨H1,I1,q1⟩
 | false=>exact hb wh ah s1 σ H1 Q I1 q1
def Ot(ha:PT X a tA):PT X (.UnaryOp .Not a pos) (Yk tA):=by
 intro ah s σ H Q I h;exact isTrue_not (ha ah s σ H (λc H1=>Q (!c) H1) I h)
def Ts(ta:TE):TE:=λσ H Q=>ta σ H λx H1=>∃c,x=.bl c/\Q (.bl (!c)) H1
def FN{op}(h:PE X a t):PE X (.BoolOp op [a] pos) t:=λah s σ H Q I hw=>BoolOp_one (h ah s σ H Q I hw)
def Ou(ha:PE X a ta):PE X (.UnaryOp .Not a pos) (Ts ta):=by
 intro ah s σ H Q I h;refine UnaryOp_ (thn (ha ah s σ H _ I h) λv s1 ⟨x,H1,I1,r1,q1⟩=>?_)
 obtain⟨c,rfl,q1⟩:=q1;cases r1;exact not_of (jr ⟨.bl (!c),H1,I1,rfl,q1⟩)
def tIf(t:TT)(ta tb:TE):TE:=λσ H Q=>t σ H λc H1=>if c=true then ta σ H1 Q else tb σ H1 Q
def FO(hc:PT X c tA)(ha:PE X a ta)(hb:PE X b tb):PE X (.IfExp c a b pos) (tIf tA ta tb):=by
 intro ah s σ H Q I h;refine wpAny_IfExp (thn (hc ah s σ H _ I h) λd s1 ⟨H1,I1,q1⟩=>?_)
 cases d with
 | true=>exact ha ah s1 σ H1 Q I1 q1
 | false=>exact hb ah s1 σ H1 Q I1 q1
end
def vx(K:W.Frag)(H:Hp)(a:Addr)(xs:List V):Prop :=
 Rd H a (.lst xs) \/
  ∃(o:Obj) (ax:Array Value) (n:Nat),K.lookup a=some o/\o.cls=.type "list"/\o.dict=none/\o.data=.seq ax n/\ax.size<=sizeLine/\Vals xs ax.toList
def iH.sq{K:W.Frag}{H:Hp}{a:Addr}{xs:List V}(h:iH K H a xs):vx K H a xs:=by
 rcases h with h | ⟨ax,n,e,z,r⟩
 ·exact .inl h
 ·exact .inr ⟨_,ax.toArray,n,e,rfl,rfl,rfl,by grind,by grind⟩
noncomputable def Yl:Value->Option V
 | .none=>some .aL
 | .bool b=>some (.bl b)
 | .int i _=>some (.int i)
 | .str x _=>some (.str x)
 | .bytes b _=>some (.Sh b)
 | .float b _=>some (.W8 b)
 | .ref a=>some (.ref a)
 | .type n=>some (.ty n)
 | _=>none
def RelV.abs(r:RelV x u):Yl u=some x:=by
 cases x with
 | aL=>cases r;rfl
 | bl _=>cases r;rfl
 | int _=>obtain⟨t,rfl⟩:=r;rfl
 | str _=>obtain⟨t,rfl⟩:=r;rfl
 | Sh _=>obtain⟨t,rfl⟩:=r;rfl
 | W8 _=>obtain⟨t,rfl⟩:=r;rfl
 | ref _=>cases r;rfl
 | ty _=>cases r;rfl
def RelV.inj(r:RelV x u)(q:RelV y u):x=y:=aZ (r.abs.symm.trans q.abs)
theorem Vals.inj:∀{xs ys:List V} {us:List Value},Vals xs us->Vals ys us->xs=ys
 | _,_,_,.nil,.nil=>rfl
 | _,_,_,.cons r t,.cons r' t'=>by rw[r.inj r',Vals.inj t t']
section
variable {X:Cx} {ah:List (Addr×Obj)} {σ:St} {H:Hp} {s:Shared} {a:Addr} {xs ys:List V}
def iG.of{K:W.Frag}(h:H a=some (.au xs)):iG K H a xs:=.inl (.inl h)
def Inv.list(I:Inv X ah σ H s)(h:vx X.K H a xs):∃ax:List Value,Vals xs ax/\PlainL s.heap a ax.toArray/\xs.length<=sizeLine:=by
 rcases h with h | ⟨o,ax,n,hk,hc,hd,hs,hz,r⟩
 ·obtain⟨z,ax,n,r,e⟩:=h.ok I.hok;exact⟨ax,r,⟨_,n,e,rfl,rfl,rfl⟩,z⟩
 ·refine⟨ax.toList,r,⟨o,n,I.oj a o hk,hc,hd,by simp_all⟩,?_⟩
  have e:=r.length;simp only[mW]at e
  lia
def Inv.Ov(I:Inv X ah σ H s)(h:iG X.K H a xs):∃ax:List Value,Vals xs ax/\oi s.heap a ax.toArray/\xs.length<=sizeLine:=by
 rcases h with h | ⟨o,ax,n,hk,hc,⟨hs,hd⟩,hz,r⟩
 ·obtain⟨z,ax,r,p⟩:=h.ok I.hok;exact⟨ax,r,p,z⟩
 ·refine⟨ax.toList,r,⟨o,I.oj a o hk,hc,⟨n,by simp_all⟩,hd⟩,?_⟩
  have e:=r.length;simp only[mW]at e
  lia
def Inv.tuple(I:Inv X ah σ H s)(h:iG X.K H a xs):∃ax:List Value,Vals xs ax/\IsTup s.heap a ax.toArray/\xs.length<=sizeLine:=by
 obtain⟨ax,r,p,z⟩:=I.Ov h;exact⟨ax,r,p.is,z⟩
def Inv.lN(I:Inv X ah σ H s)(h:vx X.K H a xs)(h':vx X.K H a ys):xs=ys:=by
 obtain⟨ax,r,⟨o,n,e,_,_,d⟩,_⟩:=I.list h;obtain⟨its',r',⟨o',n',e',_,_,d'⟩,_⟩:=I.list h';rw[e]at e';cases e';rw[d]at d';injection d' with d1 _
 have:ax=its':=by grind
 subst this;exact r.inj r'
def Inv.j3(I:Inv X ah σ H s)(h:iG X.K H a xs)(h':iG X.K H a ys):xs=ys:=by
 obtain⟨ax,r,⟨o,e,_,n,d⟩,_⟩:=I.tuple h;obtain⟨its',r',⟨o',e',_,n',d'⟩,_⟩:=I.tuple h';rw[e]at e';cases e';rw[d]at d';injection d' with d1 _
 have:ax=its':=by grind
 subst this;exact r.inj r'
end
noncomputable abbrev Cx.sG(X:Cx)(E:Value->Shared->Prop):Cx:={X with xe:=E}
abbrev Cx.Sq(X:Cx):Cx:=X.sG λ_ _=>False
def Cx.Ok.sG{X:Cx}(ok:X.Ok)(E:Value->Shared->Prop):(X.sG E).Ok :=
 ⟨ok.mod,ok.kind,ok.glob,ok.blt,ok.above,ok.inj,ok.has,ok.cab,ok.hd,ok.frames,ok.stk,ok.exf,ok.bs,ok.bsz,ok.noex,ok.exfs,ok.funs,ok.frf,ok.tabs⟩
def Cx.Ok.jE{X:Cx}{E:Value->Shared->Prop}(ok:(X.sG E).Ok):X.Ok :=
 ⟨ok.mod,ok.kind,ok.glob,ok.blt,ok.above,ok.inj,ok.has,ok.cab,ok.hd,ok.frames,ok.stk,ok.exf,ok.bs,ok.bsz,ok.noex,ok.exfs,ok.funs,ok.frf,ok.tabs⟩
section
variable {X:Cx} {ah:List (Addr×Obj)} {σ:St} {H:Hp} {s:Shared} {E:Value->Shared->Prop}
def Inv.sG(I:Inv X ah σ H s)(E:Value->Shared->Prop):Inv (X.sG E) ah σ H s:=⟨I.ok.sG E,I.os,I.bare,I.base,I.loc,I.cell,I.free,I.freeC,I.pin,I.hok,I.len⟩
def Inv.jE(I:Inv (X.sG E) ah σ H s):Inv X ah σ H s:=⟨I.ok.jE,I.os,I.bare,I.base,I.loc,I.cell,I.free,I.freeC,I.pin,I.hok,I.len⟩
def SP.jE(h:SP (X.sG E) ah D f s'):SP X ah D f s':=by
 cases f with
 | next=>obtain⟨bF,H',I,q⟩:=h;exact⟨bF,H',I.jE,q⟩
 | brk=>obtain⟨bF,H',I,q⟩:=h;exact⟨bF,H',I.jE,q⟩
 | cont=>obtain⟨bF,H',I,q⟩:=h;exact⟨bF,H',I.jE,q⟩
 | ret u=>obtain⟨v,bF,H',I,r,q⟩:=h;exact⟨v,bF,H',I.jE,r,q⟩
end
section
variable {X:Cx} {st:Stmt} {rest:List Stmt} {t u:TS} {e:Expr} {te:TE} {pos:Pos}
def MQ:TS:=λD σ H=>D.nx σ H
def Ym(t u:TS):TS:=λD σ H=>t {D with nx:=u D} σ H
def JT:PSs X [] MQ:=λ_ _ σ H _ I h=>pT ⟨σ,H,I,h⟩
def FP(h1:PS X st t)(h2:PSs X rest u):PSs X (st::rest) (Ym t u):=by
 intro ah s σ H D I h;refine wpAny_execs_cons (thn (h1 ah s σ H {D with nx:=u D} I h) λf s1 q=>?_)
 cases f with
 | next =>
  obtain⟨bF,H',I',q⟩:=q;exact h2 ah s1 bF H' D I' q
 | ret v=>exact q
 | brk=>exact q
 | cont=>exact q
def JU(h1:PS X st t):PSs X [st] t:=by
 intro ah s σ H D I h;refine wpAny_execs_cons (thn (h1 ah s σ H D I h) λf s1 q=>?_)
 cases f with
 | next=>exact pT q
 | ret v=>exact q
 | brk=>exact q
 | cont=>exact q
def Ow:TS:=λD σ H=>D.bk σ H
def Tt:TS:=λD σ H=>D.ct σ H
def JV:PS X (.Pass pos) MQ:=λ_ _ σ H _ I h=>wpAny_Pass ⟨σ,H,I,h⟩
def FQ:PS X (.Break pos) Ow:=λ_ _ σ H _ I h=>wpAny_Break ⟨σ,H,I,h⟩
def xD:PS X (.Continue pos) Tt:=λ_ _ σ H _ I h=>wpAny_Continue ⟨σ,H,I,h⟩
def Inv.quiet{ah:List (Addr×Obj)}{σ:St}{H:Hp}{s:Shared}(I:Inv X ah σ H s):interactive X.env=false:=by simp[interactive,I.ok.kind]
def Tu(te:TE):TS:=λD σ H=>te σ H λ_ H1=>D.nx σ H1
def JW(he:PE X e te)(hs:swapsWith e none pos.line X.env=pure false:=by rfl):PS X (.Expr e pos) (Tu te):=by
 intro ah s σ H D I h;exact wpAny_Expr_any (thn (he ah s σ H _ I h) (by rintro v s1 ⟨x,H1,I1,r1,q1⟩;exact⟨σ,H1,I1,q1⟩)) I.quiet hs
def Yn(te:TE):TS:=λD σ H=>te σ H D.rt
def Ox(he:PE X e te):PS X (.Return (some e) pos) (Yn te):=by
 intro ah s σ H D I h;exact wpAny_Return_some (thn (he ah s σ H _ I h) (by rintro v s1 ⟨x,H1,I1,r1,q1⟩;exact⟨x,σ,H1,I1,r1,q1⟩))
def Tv:TS:=λD _ H=>D.rt .aL H
def JX:PS X (.Return none pos) Tv:=λ_ _ σ H _ I h=>wpAny_Return_none ⟨.aL,σ,H,I,rfl,h⟩
def Yo(c:TT)(t u:TS):TS:=λD σ H=>c σ H λb H1=>if b=true then t D σ H1 else u D σ H1
def Tz(hc:PT X c tc)(ha:PSs X a t)(hb:PSs X b u):PS X (.If c a b pos) (Yo tc t u):=by
 intro ah s σ H D I h;refine wpAny_If (thn (hc ah s σ H _ I h) λd s1 ⟨H1,I1,q1⟩=>?_)
 cases d with
 | true=>exact ha ah s1 σ H1 D I1 q1
 | false=>exact hb ah s1 σ H1 D I1 q1
end
abbrev TG:=V->St->Hp->(St->Hp->Prop)->Prop
abbrev MR:=List V->St->Hp->(St->Hp->Prop)->Prop
def PG(X:Cx)(target:Expr)(t:TG):Prop :=
 ∀(ah:List (Addr×Obj)) (s:Shared) (σ:St) (H:Hp) (v:V) (u:Value) (Q:St->Hp->Prop),Inv X ah σ H s->RelV v u->t v σ H Q ->
  wpAny (model X.prog X.w) X.A (assign target X.env u) (λ_ s'=>∃bF H',Inv X ah bF H' s'/\Q bF H') X.xe s
def PGs(X:Cx)(ts:List Expr)(t:MR):Prop :=
 ∀(ah:List (Addr×Obj)) (s:Shared) (σ:St) (H:Hp) (vs:List V) (us:List Value) (Q:St->Hp->Prop),Inv X ah σ H s->Vals vs us->t vs σ H Q ->
  wpAny (model X.prog X.w) X.A (assignInOrder ((assignEach ts X.env).map (·.2)) us) (λ_ s'=>∃bF H',Inv X ah bF H' s'/\Q bF H') X.xe s
abbrev FT:=V->V->V->Hp->(Hp->Prop)->Prop
def FU(X:Cx)(t:FT):Prop :=
 ∀(ah:List (Addr×Obj)) (s:Shared) (σ:St) (H:Hp) (o i v:V) (ov iv u:Value) (Q:Hp->Prop),Inv X ah σ H s->RelV o ov->RelV i iv->RelV v u->t o i v H Q ->
  wpAny (model X.prog X.w) X.A (setItem ov iv u) (λ_ s'=>∃H',Inv X ah σ H' s'/\Q H') X.xe s
abbrev TIp:=V->V->Hp->VK->Prop
def PIp(X:Cx)(op:Operator)(t:TIp):Prop :=
 ∀(ah:List (Addr×Obj)) (s:Shared) (σ:St) (H:Hp) (x y:V) (v u:Value) (Q:VK),Inv X ah σ H s->RelV x v->RelV y u->t x y H Q ->
  wpAny (model X.prog X.w) X.A (inplaceOp op v u) (EP X ah σ Q) X.xe s
section
variable {X:Cx} {pos:Pos}
def gName(i:Nat):TG:=λv σ H Q=>Q (σ.set i (some v)) H
def JY(hN:X.N.Nodup)(hi:X.N[i]?=some x)(hx:MN X.env.scope x)(hf:X.fn x=true\/X.env.scope.names.lookup x=some .local):PG X (.Name x pos) (gName i):=by
 intro ah s σ H v u Q I r h;exact wpAny_assign_Name (qh I hN hi hx r (λs' I'=>⟨_,H,I',h⟩) hf)
def Yp:MR:=λvs σ H Q=>vs=[]/\Q σ H
def TC(t:TG)(u:MR):MR:=λvs σ H Q=>∃v r,vs=v::r/\t v σ H λbF H'=>u r bF H' Q
def JZ:PGs X [] Yp:=by
 intro ah s σ H vs us Q I r h;obtain⟨e,h⟩:=h;subst e;cases r;exact assignInOrder_nil ⟨σ,H,I,h⟩
def FV(h1:PG X e t)(h2:PGs X es u)
  (hs:(assignEach (e::es) X.env).map (·.2)=assign e X.env::(assignEach es X.env).map (·.2):=by rfl):PGs X (e::es) (TC t u):=by
 intro ah s σ H vs us Q I r h;obtain⟨v,vr,e1,h⟩:=h;subst e1;cases r with
 | cons r rr =>
  rw[hs];refine assignInOrder_cons (thn (h1 ah s σ H _ _ _ I r h) λ_ s1 ⟨iK,H1,I1,q1⟩=>?_)
  exact h2 ah s1 iK H1 _ _ Q I1 rr q1
def Yq(K:W.Frag)(n:Nat)(t:MR):TG:=λv σ H Q=>∃a xs,v=.ref a/\iG K H a xs/\xs.length=n/\t xs σ H Q
def Oy{es:List Expr}{k:Nat}{t:MR}{n:Nat}(hc:X.calm=true)(h:PGs X es t)
  (hn:(assignEach es X.env).length=n:=by rfl) (sg:(assignEach es X.env).findIdx? (·.1)=none:=by rfl):PG X (.Tuple es k pos) (Yq X.K n t):=by
 intro ah s σ H v u Q I r hw;obtain⟨a,xs,e1,hq,hl,hw⟩:=hw;subst e1;cases r;obtain⟨ax,rv,ht,hz⟩:=I.tuple hq;refine assign_Tuple_tuple (I.ok.hd hc) ht (by simp[hn,<-hl,rv.length]) sg λh' hx=>?_
 have I1:=I.kept (t':=s.toks) λb o e=>hx b o (bC (aI e)) e
 exact h ah _ σ H xs _ Q I1 (by grind) hw
def Yr(to ti:TE)(t:FT):TG:=λv σ H Q=>to σ H λo H1=>ti σ H1 λi H2=>t o i v H2 λH3=>Q σ H3
def Oz(ho:PE X o to)(hi:PE X i ti)(hs:FU X t)
  (ha:∀v,assign (.Subscript o i pos) X.env v=(do
   let ov <-holding [v] (eval o X.env)
   let iv <-holding [v,ov] (eval i X.env)
   standAt pos
   holding [v,ov,iv] (setItem ov iv v)
   release [v,ov,iv] []):=by intro _;rfl):PG X (.Subscript o i pos) (Yr to ti t):=by
 intro ah s σ H v u Q I r h;rw[ha];refine ai (dY (thn (ho ah s σ H _ I h) λov s1 ⟨x,H1,I1,r1,q1⟩=>?_))
 refine ai (dY (thn (hi ah s1 σ H1 _ I1 q1) λiv s2 ⟨y,H2,I2,r2,q2⟩=>?_))
 refine ai (vf (ai (dY (thn (hs ah s2 σ H2 x y v ov iv u _ I2 r1 r2 r q2) λ_ s3 ⟨H3,I3,q3⟩=>?_))))
 exact wpAny_release ⟨σ,H3,I3,q3⟩
def J0(te:TE)(g:TG):TS:=λD σ H=>te σ H λx H1=>g x σ H1 D.nx
def FW(he:PE X e te)(hg:PG X tg g)(hs:swapsWithSole [tg] e pos.line X.env=pure false:=by rfl)(hw:swappedStores [tg] e X.env=pure none:=by rfl)
  (h1:(assignEach [tg] X.env).map (·.2)=[assign tg X.env]:=by rfl):PS X (.Assign [tg] e pos) (J0 te g):=by
 intro ah s σ H D I h;refine wpAny_Assign_stores (thn (he ah s σ H _ I h) λv s1 ⟨x,H1,I1,r1,q1⟩=>?_) hs hw
 rw[h1];exact thn (hg ah s1 σ H1 x v _ I1 r1 q1) λ_ s2 q=>q
def OA(hN:X.N.Nodup)(hi:X.N[i]?=some x)(hx:MN X.env.scope x)(he:PE X e te)(hs:swapsWith e (some (.Name x om)) pos.line X.env=pure false:=by rfl)(hf:X.fn x=true\/X.env.scope.names.lookup x=some .local) :
  PS X (.Assign [.Name x om] e pos) (J0 te (gName i)):=by
 intro ah s σ H D I h;refine wpAny_Assign_Name (thn (he ah s σ H _ I h) λv s1 ⟨y,H1,I1,r1,q1⟩=>?_) hs
 exact qh I1 hN hi hx r1 (λs2 I2=>⟨_,H1,I2,q1⟩) hf
def Ys(i:Nat)(te:TE)(ti:TIp):TS:=λD σ H=>∃x,σ[i]?=some (some x)/\te σ H λy H1=>ti x y H1 λz H2=>D.nx (σ.set i (some z)) H2
def OB(hN:X.N.Nodup)(hi:X.N[i]?=some x)(hx:MN X.env.scope x)(he:PE X e te)(ho:PIp X op ti)(hf:X.fn x=true\/X.env.scope.names.lookup x=some .local) :
  PS X (.AugAssign (.Name x om) op e pos) (Ys i te ti):=by
 intro ah s σ H D I h;obtain⟨v,e1,h⟩:=h;obtain⟨m,hn,hl⟩:=I.loc;have Sr:Sn X.env.scope x:=by rcases hx with k | k;exact .inl k;exact .inr (.inl k)
 obtain⟨u,r,l⟩:=hl i x v hi e1 Sr;refine wpAny_AugAssign_Name ?_;have go:wpAny (model X.prog X.w) X.A (eval e X.env) (λw OC=>wpAny (model X.prog X.w) X.A (inplaceOp op u w) (λr Yt=>wpAny (model X.prog X.w) X.A (storeName X.env x r) (λ_=>SP X ah D .next) X.xe Yt) X.xe OC) X.xe s:=by
  refine thn (he ah s σ H _ I h) λw s1 ⟨y,H1,I1,r1,q1⟩=>?_
  refine thn (ho ah s1 σ H1 v y u w _ I1 r r1 q1) λz s2 ⟨zv,H2,I2,r2,q2⟩=>?_
  exact qh I2 hN hi hx r2 (λs3 I3=>⟨_,H2,I3,q2⟩) hf
 rcases l with⟨hk,hm⟩ | ⟨hk,c,hc,td⟩
 ·exact wpAny_loadName_local I.ok.kind hk hn hm go
 ·rcases hk with hk | hk
  ·exact wpAny_loadName_cell I.ok.kind hk hc td go
  ·rcases hx with k | k
   ·have:X.env.scope.names.lookup x=some .free:=hk;rw[k]at this;cases this
   ·have:X.env.scope.names.lookup x=some .free:=hk;rw[k]at this;cases this
end
section
variable {X:Cx} {pos:Pos}
def OD(c:TT)(tb:TS):TS:=λD σ H=>∃W:Nat->St->Hp->Prop,(∃m,W m σ H)/\∀m σ H,W m σ H ->
 c σ H λb H1=>if b=true then ∃N:St->Hp->Prop,(∀bF H',N bF H'->∃m',m'<m/\W m' bF H')/\tb {D with nx:=N,ct:=N,bk:=D.nx} σ H1 else D.nx σ H1
def FX(hp:PassesOwn (model X.prog X.w) X.A X.env X.xe)(hc:PT X c tc)(hb:PSs X body tb):PS X (.While c body [] pos) (OD tc tb):=by
 intro ah s σ H D I h;obtain⟨W,⟨m0,w0⟩,qi⟩:=h;refine wpAny_While (codeAny_whileLoop (λn s'=>∃bF H',Inv X ah bF H' s'/\W n bF H') ?_ m0 ⟨σ,H,I,w0⟩)
 rintro n s1 ⟨iK,H1,I1,w1⟩
 refine kO hp (thn (hc ah s1 iK H1 _ I1 (qi n iK H1 w1)) λb s2 ⟨H2,I2,q2⟩=>?_)
 cases b with
 | true =>
  obtain⟨N,hN,q2⟩:=q2;rw[if_pos rfl];refine kO hp (thn (hb ah s2 iK H2 _ I2 q2) λf s3 q3=>?_)
  cases f with
  | next =>
   obtain⟨oo,H3,I3,n3⟩:=q3;obtain⟨m',hm,w3⟩:=hN oo H3 n3;exact⟨m',hm,oo,H3,I3,w3⟩
  | cont =>
   obtain⟨oo,H3,I3,n3⟩:=q3;obtain⟨m',hm,w3⟩:=hN oo H3 n3;exact⟨m',hm,oo,H3,I3,w3⟩
  | brk=>exact q3
  | ret v=>exact q3
 | false =>
  rw[if_neg cw];exact pT ⟨iK,H2,I2,q2⟩
end
structure It where
 go:Nat->Hp->Prop
 yld:Nat->Hp->V->Hp->Prop
 stop:Nat->Hp->Prop
def qj(X:Cx)(ah:List (Addr×Obj))(H:Hp)(b:Addr):Prop :=
 H b=none/\b≠X.env.locals/\b∉X.fs/\(b∈X.ex\/X.s₀.heap.objs.size<=b)/\(∀x c,X.env.cells.lookup x=some c->c≠b)/\∀p∈X.pn++ah,p.1≠b
def Inv.vy{X:Cx}{ah:List (Addr×Obj)}{σ:St}{H H':Hp}{s:Shared}{b:Addr}(I:Inv X ah σ H s)(hb:s.heap.objs.size<=b)(hn:H' b=none):qj X ah H' b:=by
 refine⟨hn,pY (cm I.lt hb),I.Yg hb,.inr (aR I.sz hb),λx c e z=>?_,λp hp z=>?_⟩
 ·obtain⟨v,q⟩:=I.cell x c e;exact absurd (cm q.lt (by grind)) (fJ _)
 ·exact absurd (cm (aI (I.pin p hp).1) (by grind)) (fJ _)
structure Turn (P:Program) (w:World) (K:W.Frag) (tg:Expr) (J:It) (fp:List Addr) (it:Addr) (tn:Nat->Heap->Prop):Prop where
 mem:it∈fp
 obj:∀i h,tn i h->∀b∈fp,∃o,h.get? b=some o/\∀v,o.data≠.cell v
 keep:∀i h h',tn i h->(∀b∈fp,∀o,h.get? b=some o->h'.get? b=some o)->tn i h'
 item:∀(X:Cx),X.prog=P->X.w=w->X.K=K->X.calm=true->∀(i:Nat) (ah:List (Addr×Obj)) (s:Shared) (σ:St) (H:Hp) (E:Value->Shared->Prop),Inv X ah σ H s->(∀b∈fp,qj X ah H b)->tn i s.heap->J.go i H ->
  wpAny (model P w) X.A (pyNext (.ref it)) (λr s1=>∃u,r=some u /\
   wpAny (model P w) X.A (letOwnedTupleGo tg (.ref it) u) (λ_ s2=>∃x H',Inv X ah σ H' s2/\RelV x u/\J.yld i H x H'/\tn (i+1) s2.heap/\∀b∈fp,H' b=none) E s1) E s
 done:∀(X:Cx),X.prog=P->X.w=w->X.K=K->X.calm=true->∀(i:Nat) (ah:List (Addr×Obj)) (s:Shared) (σ:St) (H:Hp) (E:Value->Shared->Prop),Inv X ah σ H s->(∀b∈fp,qj X ah H b)->tn i s.heap->J.stop i H ->
  wpAny (model P w) X.A (pyNext (.ref it)) (λr s1=>r=none/\Inv X ah σ H s1) E s
 self:∀(A:Around) (i:Nat) (s:Shared) (Q:Value->Shared->Prop) (E:Value->Shared->Prop),tn i s.heap->Q (.ref it) s->wpAny (model P w) A (pyIter (.ref it)) Q E s
abbrev TI:=St->Hp->(It->Hp->Prop)->Prop
def PIE(X:Cx)(ah:List (Addr×Obj))(σ:St)(tg:Expr)(R:It->Hp->Prop)(Yu:Value)(s2:Shared):Prop :=
 ∃(it:Addr) (fp:List Addr) (tn:Nat->Heap->Prop) (J:It) (H':Hp),Yu=.ref it/\Inv X ah σ H' s2/\Turn X.prog X.w X.K tg J fp it tn/\tn 0 s2.heap/\(∀b∈fp,qj X ah H' b)/\R J H'
def PI(X:Cx)(tg iter:Expr)(wi:TI):Prop :=
 ∀(ah:List (Addr×Obj)) (s:Shared) (σ:St) (H:Hp) (R:It->Hp->Prop),Inv X ah σ H s->wi σ H R ->
  wpAny (model X.prog X.w) X.A (eval iter X.env) (λv s1=>wpAny (model X.prog X.w) X.A (pyIter v) (PIE X ah σ tg R) X.xe s1) X.xe s
def BJ(ho:s.heap.get? it=some o)(hc:o.cls=.type n)(hd:o.data=.fields vs)
  (hn:["enumerate","zip","dict_itemiterator","dict_reverseitemiterator","odict_iterator","itertools.zip_longest","itertools.pairwise"].contains n=false) (hQ:Q () s):wpAny M A (letOwnedTupleGo tg (.ref it) u) Q E s:=by
 unfold letOwnedTupleGo;cases tg<;>first
  | exact ar hQ
  | (cases u<;>first
    | exact ar hQ
    | (refine ai (wpAny_load ho ?_)
       rw[hc,hd];show wpAny M A (if(["enumerate","zip","dict_itemiterator","dict_reverseitemiterator","odict_iterator","itertools.zip_longest","itertools.pairwise"].contains n&&vs[0]?==some (rawInt _))=true then _ else _) Q E s
       rw[if_neg (by grind)]
       exact ar hQ))
noncomputable def Xi(K:W.Frag)(a:Addr):It :=
 ⟨λi H=>∃xs x,vx K H a xs/\xs[i]?=some x,λi H x H'=>H'=H/\∀xs,vx K H a xs->xs[i]?=some x,λi H=>∃xs,vx K H a xs/\xs.length<=i⟩
noncomputable def Yv(K:W.Frag)(a:Addr):It :=
 ⟨λi H=>∃xs x,iG K H a xs/\xs[i]?=some x,λi H x H'=>H'=H/\∀xs,iG K H a xs->xs[i]?=some x,λi H=>∃xs,iG K H a xs/\xs.length<=i⟩
noncomputable def Xj(lo:Int)(n:Nat):It:=⟨λi _=>i<n,λi H x H'=>H'=H/\x=.int (lo+i),λi _=>n<=i⟩
def DB{P:Program}{w:World}{K:W.Frag}{tg:Expr}(a it:Addr):Turn P w K tg (Xi K a) [it] it (λi h=>h.IsListIter it a i) where
 mem:=by simp
 obj:=λi h st b hb=>by
  have e:b=it:=by grind
  subst e;obtain⟨o,e,c,d⟩:=st;exact⟨o,e,λv z=>by grind⟩
 keep:=λi h h' st k=>st.at λo e=>k it (by simp) o e
 item:=by
  intro X hP hw hK hc i ah s σ H E I hf st hg;subst hP hw hK;obtain⟨xs,x,hq,hx⟩:=hg;obtain⟨ax,rv,p,hz⟩:=I.list hq;obtain⟨u,hu,ru⟩:=rv.get hx;obtain⟨f0,f1,f2,f3,f4,f5⟩:=hf it (by simp)
  refine wpAny_pyNext_list_item st p.isList (by simpa using hu) λh' st' sb=>?_
  have I1:=I.turned (t':=s.toks) (λb o hb e=>(sb.2 b hb).trans e) f0 f1 f3 f4 f5
  obtain⟨o,e,c,d⟩:=id st';exact⟨u,rfl,BJ e c d (by decide) ⟨x,H,I1,ru,⟨rfl,λys hy=>by rw[I.lN hy hq];exact hx⟩,st',λb hb=>(hf b hb).1⟩⟩
 done:=by
  intro X hP hw hK hc i ah s σ H E I hf st hg;subst hP hw hK;obtain⟨xs,hq,hx⟩:=hg;obtain⟨ax,rv,p,hz⟩:=I.list hq;obtain⟨f0,f1,f2,f3,f4,f5⟩:=hf it (by simp)
  have hl:=rv.length;exact wpAny_pyNext_list_end (I.ok.hd hc) st p.isList (by simp;lia) λh' eb=>⟨rfl,I.turned (λb o hb e=>eb b o hb e) f0 f1 f3 f4 f5⟩
 self:=λ_ _ _ _ _ st h=>wpAny_pyIter_listiter st h
def Ak{P:Program}{w:World}{K:W.Frag}{tg:Expr}(a it:Addr):Turn P w K tg (Yv K a) [it] it (λi h=>h.IsTupleIter it a i) where
 mem:=by simp
 obj:=λi h st b hb=>by
  have e:b=it:=by grind
  subst e;obtain⟨o,e,c,d⟩:=st;exact⟨o,e,λv z=>by grind⟩
 keep:=λi h h' st k=>st.at λo e=>k it (by simp) o e
 item:=by
  intro X hP hw hK hc i ah s σ H E I hf st hg;subst hP hw hK;obtain⟨xs,x,hq,hx⟩:=hg;obtain⟨ax,rv,p,hz⟩:=I.tuple hq;obtain⟨u,hu,ru⟩:=rv.get hx;obtain⟨f0,f1,f2,f3,f4,f5⟩:=hf it (by simp)
  refine wpAny_pyNext_tuple_item st (p) (by simpa using hu) λh' st' sb=>?_
  have I1:=I.turned (t':=s.toks) (λb o hb e=>(sb.2 b hb).trans e) f0 f1 f3 f4 f5
  obtain⟨o,e,c,d⟩:=id st';exact⟨u,rfl,BJ e c d (by decide) ⟨x,H,I1,ru,⟨rfl,λys hy=>by rw[I.j3 hy hq];exact hx⟩,st',λb hb=>(hf b hb).1⟩⟩
 done:=by
  intro X hP hw hK hc i ah s σ H E I hf st hg;subst hP hw hK;obtain⟨xs,hq,hx⟩:=hg;obtain⟨ax,rv,p,hz⟩:=I.tuple hq;obtain⟨f0,f1,f2,f3,f4,f5⟩:=hf it (by simp)
  have hl:=rv.length;exact wpAny_pyNext_tuple_end (I.ok.hd hc) st (p) (by simp;lia) λh' eb=>⟨rfl,I.turned (λb o hb e=>eb b o hb e) f0 f1 f3 f4 f5⟩
 self:=λ_ _ _ _ _ st h=>wpAny_pyIter_tupleiter st h
def Am{P:Program}{w:World}{K:W.Frag}{tg:Expr}(it:Addr)(lo:Int)(n:Nat):Turn P w K tg (Xj lo n) [it] it (λi h=>IsRangeIter h it (lo+(i:Nat)*1) ((n:Int)-(i:Nat)) 1) where
 mem:=by simp
 obj:=λi h st b hb=>by
  grind
 keep:=λi h h' st k=>k it (by simp) _ st
 item:=by
  intro X hP hw hK hc i ah s σ H E I hf st hg;subst hP hw hK;obtain⟨f0,f1,f2,f3,f4,f5⟩:=hf it (by simp)
  have W:=Walks.range (prog:=X.prog) (w:=X.w) (I.ok.hd hc) it lo 1 n;refine W.item i s _ _ hg st λv h' tk hv st' kk=>?_
  obtain⟨t,rfl⟩:=hv;have I1:Inv X ah σ H {s with heap:=h',toks:=tk}:=I.turned (λb o hb e=>kk b o (by grind) e) f0 f1 f3 f4 f5
  refine⟨_,rfl,BJ st' rfl rfl (by decide) ⟨.int (lo+i),H,I1,⟨t,?_⟩,⟨rfl,rfl⟩,st',λb hb=>(hf b hb).1⟩⟩
  rw[Int.mul_one]
 done:=by
  intro X hP hw hK hc i ah s σ H E I hf st hg;subst hP hw hK;obtain⟨f0,f1,f2,f3,f4,f5⟩:=hf it (by simp)
  exact wpAny_pyNext_range_end (I.ok.hd hc) st (by have:n<=i:=hg;lia) λh' eb=>⟨rfl,I.turned (λb o hb e=>eb b o hb e) f0 f1 f3 f4 f5⟩
 self:=λ_ _ _ _ _ st h=>wpAny_pyIter_rangeiter st h
section
variable {X:Cx} {tg:Expr}
def TF(K:W.Frag)(tl:TE):TI:=λσ H R=>tl σ H λx H1=>∃a,x=.ref a/\(∃xs,vx K H1 a xs)/\R (Xi K a) H1
def Yw(K:W.Frag)(tl:TE):TI:=λσ H R=>tl σ H λx H1=>∃a,x=.ref a/\(∃xs,iG K H1 a xs)/\R (Yv K a) H1
def BK{l:Expr}{tl:TE}(hl:PE X l tl):PI X tg l (TF X.K tl):=by
 intro ah s σ H R I h;refine thn (hl ah s σ H _ I h) λv s1 ⟨x,H1,I1,r1,q1⟩=>?_
 obtain⟨a,e,⟨xs,hq⟩,q⟩:=q1;subst e;cases r1;obtain⟨ax,rv,p,hz⟩:=I1.list hq;refine zJ p.isList ?_;refine⟨s1.heap.objs.size,[s1.heap.objs.size],_,_,H1,rfl,I1.kept λb o e=>aJ _ e,DB a _,⟨_,bL _ rfl,rfl,rfl⟩,λb hb=>?_,q⟩
 have e:b=s1.heap.objs.size:=by grind
 subst e;exact I1.vy (aA _) (I1.hok.fresh (aA _))
def FY{l:Expr}{tl:TE}(hl:PE X l tl):PI X tg l (Yw X.K tl):=by
 intro ah s σ H R I h;refine thn (hl ah s σ H _ I h) λv s1 ⟨x,H1,I1,r1,q1⟩=>?_
 obtain⟨a,e,⟨xs,hq⟩,q⟩:=q1;subst e;cases r1;obtain⟨ax,rv,p,hz⟩:=I1.tuple hq;refine wpAny_pyIter_tuple (p) ?_;refine⟨s1.heap.objs.size,[s1.heap.objs.size],_,_,H1,rfl,I1.kept λb o e=>aJ _ e,Ak a _,⟨_,bL _ rfl,rfl,rfl⟩,λb hb=>?_,q⟩
 have e:b=s1.heap.objs.size:=by grind
 subst e;exact I1.vy (aA _) (I1.hok.fresh (aA _))
def FZ{ah:List (Addr×Obj)}{σ:St}{H:Hp}{s:Shared}{R:It->Hp->Prop}{E:Value->Shared->Prop}{lo hi:Int}{t u v:Tok}{tk:Nat}(I:Inv X ah σ H s)(h1:-(2^62)<=lo)(h2:lo<2^62)(h3:-(2^62)<=hi)(h4:hi<2^62)
  (q:R (Xj lo (hi-lo).toNat) H):wpAny (model X.prog X.w) X.A (pyIter (.ref s.heap.objs.size)) (PIE X ah σ tg R) E {s with heap:=s.heap.push {cls:=.type "range",data:=.fields #[.int lo t,.int hi u,.int 1 v]},toks:=tk}:=by
 refine wpAny_pyIter_range (IsRange.new ..) (small_one h1 h2 h3 h4) ?_;have I1:Inv X ah σ H {s with heap:=s.heap.push {cls:=.type "range",data:=.fields #[.int lo t,.int hi u,.int 1 v]},toks:=tk}:=I.kept λb o e=>aJ _ e
 refine⟨(s.heap.push {cls:=.type "range",data:=.fields #[.int lo t,.int hi u,.int 1 v]}).objs.size,[(s.heap.push {cls:=.type "range",data:=.fields #[.int lo t,.int hi u,.int 1 v]}).objs.size],_,_,H,rfl,
  I1.kept λb o e=>aJ _ e,Am _ lo (hi-lo).toNat,?_,λb hb=>?_,q⟩
 ·have e1:lo+(0:Nat)*1=lo:=by simp
  have e2:(((hi-lo).toNat:Nat):Int)-(0:Nat)=Builtin.Range.rangeSize lo hi 1:=by rw[rangeSize_one];split<;>lia
  rw[e1,e2];exact bL _ rfl
 ·have e:b=(s.heap.push {cls:=.type "range",data:=.fields #[.int lo t,.int hi u,.int 1 v]}).objs.size:=by grind
  subst e;exact I1.vy (aA _) (I1.hok.fresh (aA _))
def TJ(ta:TA):TI:=λσ H R=>ta σ H λvs H1=>∃j:Int,vs=[.int j] /\ -(2^62)<=j/\j<2^62/\R (Xj 0 j.toNat) H1
def DC{a:Expr}{ta:TA}{p pos:Pos}(hg:Gl X "range")(hm:X.mg "range"=none)(ha:PA X [a] ta)(hs:starEach [a] X.env=[(false,eval a X.env)]:=by rfl):PI X tg (.Call (.Name "range" p) [a] [] pos) (TJ ta):=by
 intro ah s σ H R I h;refine Call_ (ld_blt I hg hm boot_range (hZ (thn (ha pos ah s σ H _ I h) λus s1 ⟨vs,H1,I1,r1,q1⟩=>?_) hs rfl))
 obtain⟨j,e,q1,q2,q⟩:=q1;subst e;cases r1 with
 | cons r rr =>
  cases rr;obtain⟨t,rfl⟩:=r;exact call_range_1 (FZ I1 (by lia) (by lia) q1 q2 (by grind))
def Yx(wi:TI)(g:TG)(tb:TS):TS:=λD σ H=>wi σ H λJ H1=>∃W:Nat->Nat->St->Hp->Prop,(∃m,W 0 m σ H1)/\∀i m σ H,W i m σ H ->
 (J.stop i H/\D.nx σ H)\/(J.go i H/\∃N:St->Hp->Prop,(∀bF H',N bF H'->∃m',m'<m/\W (i+1) m' bF H')/\∀x H',J.yld i H x H'->g x σ H' λBL H2=>tb {D with nx:=N,ct:=N,bk:=D.nx} BL H2)
noncomputable def qk(fp:List Addr)(h:Heap):List (Addr×Obj):=fp.filterMap λb=>(h.get? b).map λo=>(b,o)
def iL(hb:b∈fp)(e:h.get? b=some o):(b,o)∈qk fp h:=pF.mpr ⟨b,hb,by rw[e];rfl⟩
def DD(hp:p∈qk fp h):p.1∈fp/\h.get? p.1=some p.2:=by
 obtain⟨b,hb,e⟩:=pF.mp hp;cases q:h.get? b with
 | none=>rw[q]at e;cases e
 | some o =>
  rw[q]at e;have e':=aZ e;subst e';exact⟨hb,q⟩
def Inv.pinned{ah:List (Addr×Obj)}{σ:St}{H:Hp}{s:Shared}{fp:List Addr}(I:Inv X ah σ H s)(hf:∀b∈fp,qj X ah H b)(ho:∀b∈fp,∃o,s.heap.get? b=some o/\∀v,o.data≠.cell v):Inv X (ah++qk fp s.heap) σ H s :=
 I.lM λp hp=>(cH.mp hp).elim (λz=>I.pin p (fD _ z)) λz=>by
  obtain⟨hb,e⟩:=DD z;obtain⟨f0,f1,f2,_⟩:=hf p.1 hb;obtain⟨o,e',d⟩:=ho p.1 hb;rw[e]at e';cases e';exact⟨e,f0,f1,f2,d⟩
def Inv.qm{ah pl:List (Addr×Obj)}{σ:St}{H:Hp}{s:Shared}(I:Inv X (ah++pl) σ H s):Inv X ah σ H s:=I.lM λp hp=>I.pin p (fD _ (mV _ hp))
def OE(hp:PassesOwn (model X.prog X.w) X.A X.env X.xe)(hc:X.calm=true)(hi:PI X tg iter wi)(hg:PG X tg g)(hb:PSs X body tb)
  (hs:∀x,foldedSetIterable iter X.env x=pure x:=by intro _;rfl):PS X (.For tg iter body [] pos) (Yx wi g tb):=by
 intro ah s σ H D I h;refine wpAny_For (thn (hi ah s σ H _ I h) λv s1 h1=>thn h1 λYu s2 h2=>?_) hs
 obtain⟨it,fp,tn,J,H2,e,I2,T,dE,f2,W,⟨m0,w0⟩,qi⟩:=h2;subst e;have An:∀{H':Hp},(∀b∈fp,H' b=none)->∀b∈fp,qj X ah H' b:=λhn b hb=>⟨hn b hb,(f2 b hb).2⟩
 refine codeAny_forLoop_any (λn s'=>∃i bF H',Inv X ah bF H' s'/\tn i s'.heap/\(∀b∈fp,H' b=none)/\W i n bF H') ?_ m0 ⟨0,σ,H2,I2,dE,λb hb=>(f2 b hb).1,w0⟩
 rintro n s3 ⟨i,oo,H3,I3,w9,fr3,w3⟩
 rcases qi i n oo H3 w3 with⟨stop,qn⟩ | ⟨go,N,hN,step⟩
 ·refine kO hp (thn (T.done X rfl rfl rfl hc i ah s3 oo H3 X.xe I3 (An fr3) w9 stop) λr s4 ⟨hr,I4⟩=>?_)
  subst hr;exact pT ⟨oo,H3,I4,qn⟩
 ·refine kO hp (thn (T.item X rfl rfl rfl hc i ah s3 oo H3 X.xe I3 (An fr3) w9 go) λr s4 ⟨u,hr,h4⟩=>?_)
  subst hr;refine kO hp (thn h4 λ_ s5 z9=>?_)
  obtain⟨x,H5,I5,r5,y5,OF,Yy⟩:=z9;have Yz:=I5.pinned (An Yy) (T.obj _ _ OF);refine kO hp (thn (hg _ s5 oo H5 x u _ Yz r5 (step x H5 y5)) λ_ s6 ⟨Xk,H6,I6,q6⟩=>?_)
  refine kO hp (thn (hb _ s6 Xk H6 _ I6 q6) λf s7 q7=>?_)
  have again:∀{F0:St} {H7:Hp},Inv X (ah++qk fp s5.heap) F0 H7 s7->N F0 H7->∃m,m<n/\∃i bF H',Inv X ah bF H' s7/\tn i s7.heap/\(∀b∈fp,H' b=none)/\W i m bF H':=λ{F0 H7} I7 n7=>by
   obtain⟨m',hm,w7⟩:=hN F0 H7 n7;refine⟨m',hm,i+1,F0,H7,I7.qm,T.keep _ _ _ OF λb hb o e=>(I7.pin (b,o) (fD _ (fD _ (iL hb e)))).1,λb hb=>?_,w7⟩
   obtain⟨o,e,d⟩:=T.obj _ _ OF b hb;exact(I7.pin (b,o) (fD _ (fD _ (iL hb e)))).2.1
  cases f with
  | next=>obtain⟨F0,H7,I7,n7⟩:=q7;exact again I7 n7
  | cont=>obtain⟨F0,H7,I7,n7⟩:=q7;exact again I7 n7
  | brk=>obtain⟨F0,H7,I7,q7⟩:=q7;exact⟨F0,H7,I7.qm,q7⟩
  | ret v=>obtain⟨x7,F0,H7,I7,r7,q7⟩:=q7;exact⟨x7,F0,H7,I7.qm,r7,q7⟩
end
abbrev R2:=V->V->Hp->VK->Prop
def OpR(X:Cx)(f:Value->Value->Sem Value)(r:R2):Prop :=
 ∀(ah:List (Addr×Obj)) (s:Shared) (σ:St) (H:Hp) (x y:V) (v u:Value) (Q:VK),Inv X ah σ H s->RelV x v->RelV y u->r x y H Q ->
  wpAny (model X.prog X.w) X.A (f v u) (EP X ah σ Q) X.xe s
def UnR(X:Cx)(f:Value->Sem Value)(r:V->Hp->VK->Prop):Prop :=
 ∀(ah:List (Addr×Obj)) (s:Shared) (σ:St) (H:Hp) (x:V) (v:Value) (Q:VK),Inv X ah σ H s->RelV x v->r x H Q ->
  wpAny (model X.prog X.w) X.A (f v) (EP X ah σ Q) X.xe s
def kz(X:Cx)(f:Value)(r:List V->Hp->VK->Prop):Prop :=
 ∀(ah:List (Addr×Obj)) (s:Shared) (σ:St) (H:Hp) (xs:List V) (us:List Value) (Q:VK),Inv X ah σ H s->Vals xs us->r xs H Q ->
  wpAny (model X.prog X.w) X.A (call f us) (EP X ah σ Q) X.xe s
def YA(X:Cx)(r:V->Hp->(Bool->Hp->Prop)->Prop):Prop :=
 ∀(ah:List (Addr×Obj)) (s:Shared) (σ:St) (H:Hp) (x:V) (v:Value) (Q:Bool->Hp->Prop),Inv X ah σ H s->RelV x v->r x H Q ->
  wpAny (model X.prog X.w) X.A (truthy v) (TP X ah σ Q) X.xe s
def TK(r:R2)(ta tb:TE):TE:=λσ H Q=>ta σ H λx H1=>tb σ H1 λy H2=>r x y H2 Q
def tUn(r:V->Hp->VK->Prop)(ta:TE):TE:=λσ H Q=>ta σ H λx H1=>r x H1 Q
def rI(C:Int->Int->Prop)(g:Int->Int->V):R2:=λx y H Q=>∃i j,x=.int i/\y=.int j/\C i j/\Q (g i j) H
def Jp(g:Int->Int->V):R2:=λx y H Q=>∃i j,x=.int i/\y=.int j/\Q (g i j) H
def rU(g:Int->V):V->Hp->VK->Prop:=λx H Q=>∃i,x=.int i/\Q (g i) H
section
variable {X:Cx} {a b c:Expr} {ta tb tc:TE} {pos:Pos}
def OG(ha:PE X a ta)(hb:PE X b tb){ah:List (Addr×Obj)}{s:Shared}{σ:St}{H:Hp}{R:V->V->Hp->Prop}(I:Inv X ah σ H s)
  (h:ta σ H λx H1=>tb σ H1 λy H2=>R x y H2) {Q:Value->Shared->Prop} {f:Value->Value->Sem Value}
  (hf:∀v u s2 x y H2,Inv X ah σ H2 s2->RelV x v->RelV y u->R x y H2->wpAny (model X.prog X.w) X.A (f v u) Q X.xe s2) :
  wpAny (model X.prog X.w) X.A (eval a X.env) (λv s₁=>wpAny (model X.prog X.w) X.A (eval b X.env) (λu OC=>wpAny (model X.prog X.w) X.A (f v u) Q X.xe OC) X.xe s₁) X.xe s:=by
 refine thn (ha ah s σ H _ I h) λv s1 ⟨x,H1,I1,r1,q1⟩=>?_
 refine thn (hb ah s1 σ H1 _ I1 q1) λu s2 ⟨y,H2,I2,r2,q2⟩=>?_
 exact hf v u s2 x y H2 I2 r1 r2 q2
def MS(ho:OpR X (binaryOp op) r)(ha:PE X a ta)(hb:PE X b tb):PE X (.BinOp a op b pos) (TK r ta tb):=by
 intro ah s σ H Q I h;exact wpAny_BinOp (OG ha hb I h λv u s2 x y H2 I2 rx ry q=>ho ah s2 σ H2 x y v u Q I2 rx ry q)
def TL{r:V->Hp->VK->Prop}(ho:UnR X (unaryOp op) r)(ha:PE X a ta):PE X (.UnaryOp op a pos) (tUn r ta):=by
 intro ah s σ H Q I h;exact UnaryOp_ (thn (ha ah s σ H _ I h) (by rintro v s1 ⟨x,H1,I1,r1,q1⟩;exact ho ah s1 σ H1 x v Q I1 r1 q1))
def TM{f:Value->Value->Sem Value}{C:Int->Int->Prop}{g:Int->Int->Int}
  (rule:∀(i j:Int) (t u:Tok) (s:Shared) (Q:Value->Shared->Prop) (E:Value->Shared->Prop),C i j->Q (.int (g i j) s.toks) {s with toks:=s.toks+1}->wpAny (model X.prog X.w) X.A (f (.int i t) (.int j u)) Q E s) :
  OpR X f (rI C λi j=>.int (g i j)):=by
 intro ah s σ H x y v u Q I rx ry h;obtain⟨i,j,rfl,rfl,hc,q⟩:=h;obtain⟨t,rfl⟩:=rx;obtain⟨t',rfl⟩:=ry;exact rule i j t t' s _ _ hc ⟨.int (g i j),H,I.tok _,⟨_,rfl⟩,q⟩
def OH{f:Value->Value->Sem Value}{g:Int->Int->Int}
  (rule:∀(i j:Int) (t u:Tok) (s:Shared) (Q:Value->Shared->Prop) (E:Value->Shared->Prop),Q (.int (g i j) s.toks) {s with toks:=s.toks+1}->wpAny (model X.prog X.w) X.A (f (.int i t) (.int j u)) Q E s) :
  OpR X f (Jp λi j=>.int (g i j)):=by
 intro ah s σ H x y v u Q I rx ry h;obtain⟨i,j,rfl,rfl,q⟩:=h;obtain⟨t,rfl⟩:=rx;obtain⟨t',rfl⟩:=ry;exact rule i j t t' s _ _ ⟨.int (g i j),H,I.tok _,⟨_,rfl⟩,q⟩
def J1{f:Value->Value->Sem Value}{g:Int->Int->Bool}
  (rule:∀(i j:Int) (t u:Tok) (s:Shared) (Q:Value->Shared->Prop) (E:Value->Shared->Prop),Q (.bool (g i j)) s->wpAny (model X.prog X.w) X.A (f (.int i t) (.int j u)) Q E s) :
  OpR X f (Jp λi j=>.bl (g i j)):=by
 intro ah s σ H x y v u Q I rx ry h;obtain⟨i,j,rfl,rfl,q⟩:=h;obtain⟨t,rfl⟩:=rx;obtain⟨t',rfl⟩:=ry;exact rule i j t t' s _ _ ⟨.bl (g i j),H,I,rfl,q⟩
def YB(i j:Int):Prop:=0<j/\j<1073741824
def YC(i j:Int):Prop:=0<=j/\j<=1000000/\i.natAbs<2^64
def J2(i j:Int):Prop:=(-(2^64)<i/\i<2^64)\/(-(2^64)<j/\j<2^64)
def J2.ok(h:J2 i j):IntMulOk i j:=by
 rcases h with⟨h1,h2⟩ | ⟨h1,h2⟩
 ·exact .of_left (intBits_le_64 h1 h2)
 ·exact .of_right (intBits_le_64 h1 h2)
def OI:OpR X (binaryOp .Add) (Jp λi j=>.int (i+j)):=OH λ_ _ _ _ _ _ _ q=>add_int q
def OJ:OpR X (binaryOp .Sub) (Jp λi j=>.int (i-j)):=OH λ_ _ _ _ _ _ _ q=>sub_int q
def OK:OpR X (binaryOp .Mult) (rI J2 λi j=>.int (i*j)):=TM λ_ _ _ _ _ _ _ hc q=>mul_int q hc.ok
def J3:OpR X (binaryOp .FloorDiv) (rI YB λi j=>.int (i/j)):=TM λi j _ _ _ _ _ hc q=>by
 have h1:=hc.1;have h2:=hc.2;exact floordiv_int (by lia) (by rw[Int.fdiv_eq_ediv_of_nonneg i (by lia)];exact q) (.inl (PyProof.noPylong_small (by lia)))
def OL:OpR X (binaryOp .Mod) (rI (λ_ j=>0<j) λi j=>.int (i%j)):=TM λi j _ _ _ _ _ hc q=>by
 have h1:=hc;exact mod_int' (by lia) (by rw[Int.fmod_eq_emod_of_nonneg i (by lia)];exact q)
def OM:OpR X (binaryOp .Pow) (rI YC λi j=>.int (i^j.toNat)):=TM λ_ _ _ _ _ _ _ hc q=>pow_int_small hc.1 hc.2.1 hc.2.2 q
def J4:OpR X (inplaceOp .Add) (Jp λi j=>.int (i+j)):=OH λ_ _ _ _ _ _ _ q=>iadd_int q
def unI{f:Value->Sem Value}{g:Int->Int}
  (rule:∀(i:Int) (t:Tok) (s:Shared) (Q:Value->Shared->Prop) (E:Value->Shared->Prop),Q (.int (g i) s.toks) {s with toks:=s.toks+1}->wpAny (model X.prog X.w) X.A (f (.int i t)) Q E s) :
  UnR X f (rU λi=>.int (g i)):=by
 intro ah s σ H x v Q I rx h;obtain⟨i,rfl,q⟩:=h;obtain⟨t,rfl⟩:=rx;exact rule i t s _ _ ⟨.int (g i),H,I.tok _,⟨_,rfl⟩,q⟩
def ON:UnR X (unaryOp .USub) (rU λi=>.int (-i)):=unI λ_ _ _ _ _ q=>neg_int q
end
section
variable {X:Cx} {a b c:Expr} {ta tb tc:TE} {pos:Pos}
def F6{ah:List (Addr×Obj)}{σ:St}{H:Hp}{s:Shared}{Q:VK}{k k':Bool}(I:Inv X ah σ H s)(q:Q (.bl k) H)(e:k=k'):EP X ah σ Q (.bool k') s:=by
 subst e;exact⟨.bl k,H,I,rfl,q⟩
def TN:OpR X (compareOp .Lt) (Jp λi j=>.bl (decide (i<j))):=J1 λ_ _ _ _ _ _ _ q=>lt_int q
def TQ:OpR X (compareOp .LtE) (Jp λi j=>.bl (decide (i<=j))):=J1 λ_ _ _ _ _ _ _ q=>le_int q
def TR:OpR X (compareOp .Gt) (Jp λi j=>.bl (decide (j<i))):=J1 λ_ _ _ _ _ _ _ q=>gt_int q
def TU:OpR X (compareOp .GtE) (Jp λi j=>.bl (decide (j<=i))):=J1 λ_ _ _ _ _ _ _ q=>ge_int q
def OO:OpR X (compareOp .Is) (λx y H Q=>y=.aL/\Q (.bl (decide (x=.aL))) H):=by
 intro ah s σ H x y v u Q I rx ry h;obtain⟨rfl,q⟩:=h;cases ry;refine is_none_gen (F6 I q ?_);cases x<;>first
  | (cases rx;rfl)
  | (obtain⟨t,rfl⟩:=rx;rfl)
def J5:OpR X (compareOp .IsNot) (λx y H Q=>y=.aL/\Q (.bl (!decide (x=.aL))) H):=by
 intro ah s σ H x y v u Q I rx ry h;obtain⟨rfl,q⟩:=h;cases ry;refine isnot_none_gen (F6 I q ?_);cases x<;>first
  | (cases rx;rfl)
  | (obtain⟨t,rfl⟩:=rx;rfl)
def J6(ho:OpR X (compareOp op) r)(ha:PE X a ta)(hb:PE X b tb)(hm:behindInMarks op b=false):PE X (.Compare a [op] [b] pos) (TK r ta tb):=by
 intro ah s σ H Q I h;exact wpAny_Compare1 (OG ha hb I h λv u s2 x y H2 I2 rx ry q=>ho ah s2 σ H2 x y v u Q I2 rx ry q) hm
def MT(t:TE):TT:=λσ H Q=>t σ H λx H'=>∃k,x=.bl k/\Q k H'
def J7(ho:OpR X (compareOp op) r)(ha:PE X a ta)(hb:PE X b tb)(hm:behindInMarks op b=false):PT X (.Compare a [op] [b] pos) (MT (TK r ta tb)):=by
 intro ah s σ H Q I h;refine wpAny_isTrue_Compare1 (thn (ha ah s σ H _ I h) λv s1 ⟨x,H1,I1,r1,q1⟩=>thn (hb ah s1 σ H1 _ I1 q1) λu s2 ⟨y,H2,I2,r2,q2⟩ =>
  thn (ho ah s2 σ H2 x y v u _ I2 r1 r2 q2) λc s3 ⟨z,H3,I3,r3,k,e,q3⟩=>?_) hm
 subst e;cases r3;exact jr ⟨H3,I3,q3⟩
def Ao(r r':R2)(ta tb tc:TE):TE:=λσ H Q=>ta σ H λx H1=>tb σ H1 λy H2=>r x y H2 λz H3=>∃k,z=.bl k /\
 (if k=true then tc σ H3 λw' H4=>r' y w' H4 Q else Q (.bl false) H3)
def F7(ho:OpR X (compareOp op) r)(mP:OpR X (compareOp xa) r')(ha:PE X a ta)(hb:PE X b tb)(hc:PE X c tc)
  (hm:lastMarks [op,xa] [b,c]=false:=by with_unfolding_all rfl):PE X (.Compare a [op,xa] [b,c] pos) (Ao r r' ta tb tc):=by
 intro ah s σ H Q I h;refine Compare_chain (thn (ha ah s σ H _ I h) λv s1 ⟨x,H1,I1,r1,q1⟩=>chain_link (thn (hb ah s1 σ H1 _ I1 q1) λu s2 ⟨y,H2,I2,r2,q2⟩ =>
  thn (ho ah s2 σ H2 x y v u _ I2 r1 r2 q2) λd s3 ⟨z,H3,I3,r3,k,e,q3⟩=>?_)) hm
 subst e;cases r3;refine jr ?_;cases k with
 | false=>exact ite_ff ⟨.bl false,H3,I3,rfl,q3⟩
 | true=>exact ite_tt (chain_last (thn (hc ah s3 σ H3 _ I3 q3) (by rintro w' s4 ⟨z',H4,I4,r4,q4⟩;exact mP ah s4 σ H4 y z' u w' Q I4 r2 r4 q4)))
def F8(ho:OpR X (compareOp op) r)(mP:OpR X (compareOp xa) r')(ha:PE X a ta)(hb:PE X b tb)(hc:PE X c tc)
  (hm:lastMarks [op,xa] [b,c]=false:=by with_unfolding_all rfl):PT X (.Compare a [op,xa] [b,c] pos) (MT (Ao r r' ta tb tc)):=by
 intro ah s σ H Q I h;refine isTrue_chain (thn (ha ah s σ H _ I h) λv s1 ⟨x,H1,I1,r1,q1⟩=>test_link (thn (hb ah s1 σ H1 _ I1 q1) λu s2 ⟨y,H2,I2,r2,q2⟩ =>
  thn (ho ah s2 σ H2 x y v u _ I2 r1 r2 q2) λd s3 ⟨z,H3,I3,r3,k,e,q3⟩=>?_)) hm
 subst e;cases r3;refine jr ?_;cases k with
 | false =>
  obtain⟨k',e',q'⟩:=q3;cases e';exact ite_ff ⟨H3,I3,q'⟩
 | true =>
  refine ite_tt (test_last (thn (hc ah s3 σ H3 _ I3 q3) λw' s4 ⟨z',H4,I4,r4,q4⟩=>thn (mP ah s4 σ H4 y z' u w' _ I4 r2 r4 q4) λd' s5 z9=>?_))
  obtain⟨z2,H5,I5,r5,k2,e2,q5⟩:=z9;subst e2;cases r5;exact jr ⟨H5,I5,q5⟩
def J8(K:W.Frag)(x:V)(H:Hp)(k:Bool):Prop :=
 match x with
 | .aL=>k=false
 | .bl b=>k=b
 | .int i=>k=(i != 0)
 | .str y=>y.length<=sizeLine/\k=((y.length:Int) != 0)
 | .Sh y=>y.size<=sizeLine/\k=((y.size:Int) != 0)
 | .ref p=>(∃xs,vx K H p xs/\k = !xs.isEmpty)\/(∃xs,iG K H p xs/\k = !xs.isEmpty)\/∃kvs,H p=some (.dK kvs)/\k = !kvs.isEmpty
 | _=>False
def Ap{κ:Type}{kvs:List (κ×V)}{vs:List (κ×Value)}(r:KV kvs vs):(!vs.isEmpty) = !kvs.isEmpty:=by
 cases r<;>rfl
def qo(r:Vals xs ax):(!ax.toArray.isEmpty) = !xs.isEmpty:=by
 cases r<;>simp
def kX:(sizeLine:Nat)<2^63:=by rw[kT];decide
def F9:YA X (λx H Q=>∃k,J8 X.K x H k/\Q k H):=by
 intro ah s σ H x v Q I rx h;obtain⟨k,e,q⟩:=h;have hl:=kX;have hs:=kT;cases x with
 | aL =>
  cases rx;have e':=e;subst e';exact truthy_none ⟨H,I,q⟩
 | bl b =>
  cases rx;have e':=e;subst e';exact jr ⟨H,I,q⟩
 | int i =>
  obtain⟨t,rfl⟩:=rx;have e':=e;subst e';exact PySem.P.truthy_int ⟨H,I,q⟩
 | str y =>
  obtain⟨t,rfl⟩:=rx;obtain⟨hy,e'⟩:y.length<=sizeLine/\k=((y.length:Int) != 0):=e;subst e';exact PySem.P.truthy_str (by lia) ⟨H,I.tok _,q⟩
 | Sh y =>
  obtain⟨t,rfl⟩:=rx;obtain⟨hy,e'⟩:y.size<=sizeLine/\k=((y.size:Int) != 0):=e;subst e';exact W.truthy_bytes (by lia) ⟨H,I.tok _,q⟩
 | ref p =>
  cases rx;have e':=e;rcases e' with⟨xs,hx,e'⟩ | ⟨xs,hx,e'⟩ | ⟨kvs,hx,e'⟩
  ·subst e';obtain⟨ax,r,pl,hz⟩:=I.list hx;have eX:=r.length;exact wpAny_truthy_list pl.isList (by grind) ⟨H,I.tok _,by rw[qo r];exact q⟩
  ·subst e';obtain⟨ax,r,pl,hz⟩:=I.tuple hx;have eX:=r.length;exact truthy_tuple pl (by grind) ⟨H,I.tok _,by rw[qo r];exact q⟩
  ·subst e';obtain⟨hz,hS,vs,r,m⟩:kvs.length<=sizeLine/\(p==sysModules)=false/\∃vs,KV kvs vs/\s.heap.DictOf (di X.prog X.w) p vs:=I.hok p _ hx
   have eX:=nj r;exact wpAny_truthy_dict hS m (by lia) ⟨H,I.tok _,by rw[Ap r];exact q⟩
 | _=>exact(e).elim
def Ga(ha:PE X a ta)(he:∀i6,isTrue a X.env i6=(do let v <-i6;standAt a.pos;holding [v] (truthy v))) :
  PT X a (λσ H Q=>ta σ H λx H'=>∃k,J8 X.K x H' k/\Q k H'):=by
 intro ah s σ H Q I h;exact isTrue_plain (thn (ha ah s σ H _ I h) (by rintro v s1 ⟨x,H1,I1,r1,q1⟩;exact F9 ah s1 σ H1 x v Q I1 r1 q1)) (he _)
def Aq:OpR X (binaryOp .Add) (λx y H Q=>∃i j,x=.str i/\y=.str j/\i.length+j.length<=sizeLine/\Q (.str (i++j)) H):=by
 intro ah s σ H x y v u Q I rx ry h;obtain⟨i,j,rfl,rfl,hz,q⟩:=h;obtain⟨t,rfl⟩:=rx;obtain⟨t',rfl⟩:=ry;exact add_str (λt' tk=>⟨.str (i++j),H,I.tok _,⟨_,rfl⟩,q⟩) hz
def jF(r:Vals [x] us):∃u,us=[u]/\RelV x u:=by
 cases r with
 | cons r1 r2=>cases r2;exact⟨_,rfl,r1⟩
def BM(r:Vals [x,y] us):∃u w',us=[u,w']/\RelV x u/\RelV y w':=by
 cases r with
 | cons r1 r2 =>
  cases r2 with
  | cons r3 r4=>cases r4;exact⟨_,_,rfl,r1,r3⟩
def tj:kz X (.type "int") (λxs H Q=>(∃i,xs=[.int i]/\Q (.int i) H)\/∃k,xs=[.bl k]/\Q (.int (if k then 1 else 0)) H):=by
 intro ah s σ H xs us Q I r h;rcases h with⟨i,rfl,q⟩ | ⟨k,rfl,q⟩
 ·obtain⟨u,rfl,t,rfl⟩:=jF r;exact call_int_int ⟨.int i,H,I,⟨_,rfl⟩,q⟩
 ·obtain⟨u,rfl,r1⟩:=jF r;cases r1;exact call_int_bool ⟨.int (if k then 1 else 0),H,I.tok _,⟨_,rfl⟩,q⟩
def vz:kz X (.type "str") (λxs H Q=>∃i,xs=[.int i]/\i.natAbs.log2<1920/\Q (.str (toString i)) H):=by
 intro ah s σ H xs us Q I r h;obtain⟨i,rfl,hz,q⟩:=h;obtain⟨u,rfl,t,rfl⟩:=jF r;exact PySem.P.str_of_int hz ⟨.str _,H,I.tok _,⟨_,rfl⟩,q⟩
end
structure Ar (h:Heap) (x dx C:Addr) (mA:Str->Option Value):Prop where
 obj:h.get? x=some (W.instObj C dx)
 ns:h.Ns1 dx mA
 ne:dx≠x
def DE{h:Heap}{mA:Str->Option Value}(n:h.Ns1 dx mA):∃od,h.get? dx=some od/\∀name,W.lookIn name od=some (mA name):=by
 obtain⟨o,es,ep,ho,hd,hk,_,hm⟩:=n;refine⟨o,ho,λname=>?_⟩
 have e:=hm name;unfold nsFind findBy at e;rw[<-Array.find?_toList]at e;unfold W.lookIn;rw[hd];dsimp only
 split
 ·grind
 ·rename_i q;rw[q]at e;have a:es.toList.any (·.refKey)=false:=by
   rw[zH];intro y hy;obtain⟨z,t,OP⟩:=hk y (Array.mem_toList_iff.mp hy);simp[DictEntry.refKey,OP]
  have a':¬es.toList.any (·.refKey)=true:=by grind
  rw[if_neg a'];exact dH some e
def Ar.kY(I:Ar h x dx C mA):∃od,W.InstAt h x (W.instObj C dx) C (some od)/\∀name,W.lookIn name od=some (mA name) :=
 let ⟨od,ho,hl⟩:=DE I.ns
 ⟨od,⟨I.obj,rfl,rfl,ho⟩,hl⟩
section
variable {prog:Program} {w:World} {A:Around} {E:Value->Shared->Prop} {s:Shared} {K:W.Frag} {x dx C f:Addr} {mA:Str->Option Value} {name:Str} {v:Value}
def J9(X:K.In s.heap)(I:Ar s.heap x dx C mA)(hg:W.plainGet K C name=true)(hh:W.hasDictIn K C=true)
  (ha:W.findIn K (.ref C) name=some none) (hv:mA name=some v) (YD:W.handedIn v=true) (h:Q v {s with toks:=s.toks+1}) :
  wpAny (model prog w) A (getAttr (.ref x) name expr) Q E s:=by
 obtain⟨od,J,hl⟩:=I.kY;exact W.get_value X J (W.plainGet_of hg).1 (W.findObj_own hh ha rfl (by rw[hl,hv])) YD h
def Ka(X:K.In s.heap)(I:Ar s.heap x dx C mA)
  (hs:W.findIn K (.ref C) "__setattr__"=some (some (.builtin "object.__setattr__"))) (hp:W.plainOver K C=true) (ht:W.takerIn K C name=some none) (hh:W.hasDictIn K C=true)
  (hw:PySem.Within mA ns) (hsz:ns.length<=sizeLine)
  (h:∀h',Ar h' x dx C (λy=>if y=name then some v else mA y)->Heap.SameBut dx s.heap h'->Q () {s with heap:=h',toks:=s.toks+2}) :
  wpAny (model prog w) A (setAttr (.ref x) name v) Q E s:=by
 obtain⟨od,J,hl⟩:=I.kY;refine W.set_plain X J hs (W.osa_open X J hp ht λb=>?_)
 obtain⟨cd,hc,EW⟩:=W.any_some hh;have hx:=I.obj;refine ai (ar (ai (ai (wpAny_loadPart hx (ai (W.Looks.here (W.looks_clsIn X hc) ?_))))));rw[EW];refine ar (ai (ar (ai ?_)));refine wpAny_nsSet1 I.ns λh' hn2 DF=>?_
 obtain⟨oD,esD,epD,hoD,hdD,hcD⟩:=hn2.count (PySem.Within.cons name v hw);refine ai (wpAny_lookBehind hoD (by rw[hdD];exact pastItsLine_dict (aR hcD (by grind))) ?_)
 exact ar (h _ ⟨(DF.2 _ (bU I.ne)).trans I.obj,hn2,I.ne⟩ DF)
def Gb(X:K.In s.heap)(hm:W.makesIn K C=true)
  (hi:W.findIn K (.ref C) "__init__"=some (some (.ref f))) (hf:W.typeIn K (.ref f)=some (.type "function"))
  (h:codeAny (model prog w) (A.under (.builtin "type.__call__" ⟨.ref C::vs,kw⟩)) (.call (.ref f) ⟨.ref (s.heap.objs.size+1)::vs,kw⟩) (W.InitBack (s.heap.objs.size+1) R)
   {s with heap:=(s.heap.push W.emptyDict).push (W.instObj C s.heap.objs.size)}) :
  codeAny (model prog w) A (.call (.ref C) ⟨vs,kw⟩) R s:=by
 obtain⟨hh,g,d,t,os⟩:=s;exact W.make_core (W.makes_of X hm) (W.looks_findIn X hi) (λself=>W.bind_fn X self hf) (.inl rfl) h
end
noncomputable def gU(f:Str)(v:V):List (Str×V)->List (Str×V)
 | []=>[(f,v)]
 | (g,x)::r=>if g=f then(g,v)::r else(g,x)::gU f v r
theorem nT(f g:Str)(v:V):∀fs:List (Str×V),(gU f v fs).lookup g=if g=f then some v else fs.lookup g
 | []=>by
  show List.lookup g [(f,v)]=_;by_cases h:g=f
  ·grind
  ·grind
 | (k,x)::r=>by
  have ih:=nT f g v r;rw[show gU f v ((k,x)::r)=(if k=f then(k,v)::r else(k,x)::gU f v r)from rfl]
  by_cases hk:k=f
  ·grind
  ·grind
theorem nB(f:Str)(v:V):∀fs:List (Str×V),f∈(gU f v fs).map (·.1)/\∀g,g∈fs.map (·.1)->g∈(gU f v fs).map (·.1)
 | []=>⟨by simp[gU],λg h=>by simp at h⟩
 | (k,x)::r=>by
  obtain⟨i1,i2⟩:=nB f v r;rw[show gU f v ((k,x)::r)=(if k=f then(k,v)::r else(k,x)::gU f v r)from rfl]
  by_cases hk:k=f
  ·grind
  ·grind
theorem nU(f:Str)(v:V):∀fs:List (Str×V),(gU f v fs).length<=fs.length+1
 | []=>by simp[gU]
 | (k,x)::r=>by
  have ih:=nU f v r;rw[show gU f v ((k,x)::r)=(if k=f then(k,v)::r else(k,x)::gU f v r)from rfl]
  by_cases hk:k=f
  ·grind
  ·grind
def oh.Kb(r:oh (some v) o):∃u,o=some u/\RelV v u:=by
 cases o with
 | none=>exact(r).elim
 | some u=>exact⟨u,rfl,r⟩
def oh.none_of(r:oh none o):o=none:=by
 cases o with
 | none=>rfl
 | some u=>exact(r).elim
def DG(r:RelV v u):W.handedIn u=true:=by
 cases v with
 | aL=>cases(r);rfl
 | bl b=>cases(r);rfl
 | int i=>obtain⟨t,e⟩:=(r);cases e;rfl
 | str x=>obtain⟨t,e⟩:=(r);cases e;rfl
 | Sh b=>obtain⟨t,e⟩:=(r);cases e;rfl
 | W8 b=>obtain⟨t,e⟩:=(r);cases e;rfl
 | ref a=>cases(r);rfl
 | ty n=>cases(r);rfl
section
variable {P:Program} {w:World} {H H':Hp} {h h':Heap} {a C dx:Addr} {fs MM:List (Str×V)}
def vA(hok:lF P w H h)(e:H a=some (.ins C dx fs)):∃mA,Ar h a dx C mA/\(∀f,oh (fs.lookup f) (mA f))/\PySem.Within mA (fs.map (·.1))/\fs.length<=1000/\H dx=some (.own a):=by
 obtain⟨d,z,ne,ob,mA,n,r,q⟩:=(hok a _ e);exact⟨mA,⟨ob,n,ne⟩,r,q,z,d⟩
end
def sy.get{K:W.Frag}{C:Addr}(c:sy K C)(f:Str):W.plainGet K C f=true:=c.pg
def gG.TV{K:W.Frag}{C:Addr}{f:Str}(n:gG K C f):W.takerIn K C f=some none:=by
 unfold W.takerIn;rw[show W.findIn K (.ref C) f=some none from n]
 rfl
section
variable {X:Cx} {ah:List (Addr×Obj)} {σ:St} {H:Hp} {s:Shared} {a C dx:Addr} {fs:List (Str×V)} {f:Str} {v:V} {A:Around} {E:Value->Shared->Prop}
def qp(I:Inv X ah σ H s)(e:H a=some (.ins C dx fs))(c:sy X.K C)(n:gG X.K C f)(l:fs.lookup f=some v)
  (h:∀u s',Inv X ah σ H s'->RelV v u->Q u s'):wpAny (model X.prog X.w) A (getAttr (.ref a) f b) Q E s:=by
 obtain⟨mA,O,r,_,_,_⟩:=vA I.hok e;obtain⟨u,hu,ru⟩:=oh.Kb (by rw[<-l];exact r f)
 exact J9 I.oj O (c.get f) c.hd n hu (DG ru) (h u _ (I.tok _) ru)
def qr(I:Inv X ah σ H s)(e:H a=some (.ins C dx fs))(c:sy X.K C)(n:gG X.K C f)(hl:fs.length<1000)(ry:RelV y u)
  (h:∀s',Inv X ah σ (cU H a (.ins C dx (gU f y fs))) s'->Q () s'):wpAny (model X.prog X.w) A (setAttr (.ref a) f u) Q E s:=by
 obtain⟨mA,O,r,wi,_,ho⟩:=vA I.hok e;have hz:(fs.map (·.1)).length<=sizeLine:=by rw[aT,kT];lia
 refine Ka I.oj O c.sa c.po n.TV c.hd wi hz λh' O' sb=>h _ ?_
 have hd:∃o,h'.get? dx=some o:=let ⟨o,_,_,e',_⟩:=O'.ns;⟨o,e'⟩
 refine I.write (by rw[e];exact True.intro) (.inr ho) (λb q hb z=>(sb.2 b hb).trans z) hd ?_
 refine⟨by rw[aN O.ne];exact ho,?_,O.ne,O'.obj,_,O'.ns,λg=>?_,λg hg=>?_⟩
 ·have:=nU f y fs;lia
 ·rw[nT];by_cases q:g=f
  ·rw[if_pos q,if_pos q];exact ry
  ·rw[if_neg q,if_neg q];exact r g
 ·by_cases q:g=f
  ·rw[q];exact(nB f y fs).1
  ·refine(nB f y fs).2 g (wi g λz=>hg ?_)
   show(if g=f then some u else mA g)=none
   rw[if_neg q];exact z
def Inv.made(I:Inv X ah σ H s):Inv X ah σ (cU (cU H s.heap.objs.size (.own (s.heap.objs.size+1))) (s.heap.objs.size+1) (.ins C s.heap.objs.size []))
  {s with heap:=(s.heap.push W.emptyDict).push (W.instObj C s.heap.objs.size)}:=by
 have e1:(s.heap.push W.emptyDict).get? s.heap.objs.size=some W.emptyDict:=bL s.heap rfl;have e2:((s.heap.push W.emptyDict).push (W.instObj C s.heap.objs.size)).get? (s.heap.objs.size+1)=some (W.instObj C s.heap.objs.size):=by
  have:=bL (s.heap.push W.emptyDict) (o:=W.instObj C s.heap.objs.size) rfl
  rwa [eG]at this
 have e3:(s.heap.push W.emptyDict).Ns s.heap.objs.size (λ_=>none):=⟨W.emptyDict,#[],_,e1,rfl,(λe he=>absurd he (by simp)),λ_=>rfl⟩
 have I1:=I.laid (o:=.own (s.heap.objs.size+1)) (t':=s.toks) (λb u q=>aJ _ q) (aA _) ⟨_,e1⟩
 refine I1.laid (t':=s.toks) (λb u q=>aJ _ q) (jy (eG _ _)) ?_
 have ne:s.heap.objs.size≠s.heap.objs.size+1:=by grind
 refine⟨by rw[aN ne,aB],iD _,ne,e2,λ_=>none,(Heap.Ns1.of_empty e3).at λo q=>aJ _ q,λ_=>True.intro,λy hy=>absurd rfl hy⟩
def Kc(hb:attributeBase e f env (eval e env)=eval e env)
  (h:wpAny (model prog w) A (eval e env) (λo s₁=>wpAny (model prog w) A (getAttr o f true) Q E s₁) E s):wpAny (model prog w) A (eval (.Attribute e f pos) env) Q E s :=
 Attribute_any_ h (by rw[arm_eval_Attribute,hb])
end
def YE(K:W.Frag)(ta:TE)(f:Str):TE:=λσ H Q=>ta σ H λx H1=>∃a C dx fs v,x=.ref a/\H1 a=some (.ins C dx fs)/\sy K C/\gG K C f/\fs.lookup f=some v/\Q v H1
def YF(K:W.Frag)(ta tv:TE)(f:Str):TS:=λD σ H=>tv σ H λy H1=>ta σ H1 λx H2=>∃a C dx fs,x=.ref a/\H2 a=some (.ins C dx fs)/\sy K C/\gG K C f/\fs.length<1000 /\
 D.nx σ (cU H2 a (.ins C dx (gU f y fs)))
section
variable {X:Cx} {o e value:Expr} {f:Str} {pos om qt:Pos} {ta tv:TE}
def OQ(he:PE X e ta)(hb:attributeBase e f X.env (eval e X.env)=eval e X.env):PE X (.Attribute e f pos) (YE X.K ta f):=by
 intro ah s σ H Q I h;refine Kc hb (thn (he ah s σ H _ I h) λu s1 z9=>?_)
 obtain⟨x,H1,I1,rx,a,C,dx,fs,v,ex,ea,c,n,l,q⟩:=z9;subst ex;obtain rfl:u=Value.ref a:=rx;exact qp I1 ea c n l λu' s2 I2 ru=>⟨v,H1,I2,ru,q⟩
def OR(ha:PE X o ta)(hv:PE X value tv)(hs:swapsWith value (some (.Attribute o f om)) pos.line X.env=pure false):PS X (.Assign [.Attribute o f om] value pos) (YF X.K ta tv f):=by
 intro ah s σ H D I h;refine plainObj_wpAny_Assign_Attribute (thn (hv ah s σ H _ I h) λu s1 ⟨y,H1,I1,ry,q⟩=>thn (ha ah s1 σ H1 _ I1 q) λov s2 z9=>?_) hs
 obtain⟨x,H2,I2,rx,a,C,dx,fs,ex,ea,c,n,l,q2⟩:=z9;subst ex;obtain rfl:ov=Value.ref a:=rx;exact qr I2 ea c n l ry λs3 I3=>⟨σ,_,I3,q2⟩
end
structure c7 (k:Nat) (A:Around):Prop where
 hd:A.handled=none
 dp:A.depth+3*k+5<recursionLimit
 un:A.units+16*k+1200<cLine
def c7.mono(r:c7 k A)(h:j<=k):c7 j A:=⟨r.hd,by have:=r.dp;lia,by have:=r.un;lia⟩
def c7.deeper(r:c7 (k+1) A)(env:Env):c7 k (A.deeper env) :=
 ⟨r.hd,by have:=r.dp;show A.depth+1+3*k+5<_;lia,by have:=r.un;show A.units+3+16*k+1200<_;lia⟩
def As{A:Around}:(A.under (.builtin "type.__call__" ⟨.ref C::us,kw⟩)).depth=A.depth+1:=by
 first | rfl | simp[Around.under,Code.weight,Code.isCreation,Code.isGuard,Code.isCaller,Code.frames,Code.isFrame,guardIds]
def Au{A:Around}:(A.under (.builtin "type.__call__" ⟨.ref C::us,kw⟩)).units=A.units+1:=by
 first | rfl | simp[Around.under,Code.cUnits,Code.frames,Code.isFrame]
def c7.make(r:c7 (k+1) A)(C:Addr)(us:List Value)(kw:List (Str×Value)):c7 k (A.under (.builtin "type.__call__" ⟨.ref C::us,kw⟩)) :=
 ⟨r.hd,by have:=r.dp;rw[As];lia,by have:=r.un;rw[Au];lia⟩
def c7.depth(r:c7 k A):A.depth<recursionLimit:=by have:=r.dp;lia
def OS:TA:=λ_ H Q=>Q [] H
def TX(ta:TE)(tr:TA):TA:=λσ H Q=>ta σ H λx H1=>tr σ H1 λxs H2=>Q (x::xs) H2
section
variable {X:Cx} {e:Expr} {es:List Expr} {te:TE} {t:TA} {pos:Pos}
def qu:PA X [] OS:=λ_ _ _ _ H Q I h=>Calls.spliced_nil ⟨[],H,I,.nil,h⟩
def gY(ha:PE X e te)(hr:PA X es t)(hs:starEach (e::es) X.env=(false,eval e X.env)::starEach es X.env:=by rfl):PA X (e::es) (TX te t):=by
 intro pos ah s σ H Q I h;rw[hs];refine Calls.spliced_cons (thn (ha ah s σ H _ I h) λu s1 ⟨x,H1,I1,r1,q1⟩=>?_)
 exact thn (hr pos ah s1 σ H1 _ I1 q1) (by rintro us s2 ⟨xs,H2,I2,r2,q2⟩;exact⟨x::xs,H2,I2,.cons r1 r2,q2⟩)
def YG(t:TA):TE:=λσ H Q=>t σ H λxs H1=>xs.length<=sizeLine/\∀p,H1 p=none->Q (.ref p) (cU H1 p (.au xs))
def YH(t:TA):TE:=λσ H Q=>t σ H λxs H1=>xs.length<=sizeLine/\∀p,H1 p=none->Q (.ref p) (cU H1 p (.lst xs))
def OT{x1}(h:PA X es t):PE X (.Tuple es x1 pos) (YG t):=by
 intro ah s σ H Q I hq;refine wpAny_Tuple_spliced (thn (h pos ah s σ H _ I hq) λus s1 ⟨xs,H1,I1,r,z,q⟩=>⟨by rw[<-r.length];exact z,?_⟩)
 have hf:=I1.hok.fresh (aA _);refine⟨.ref s1.heap.objs.size,cU H1 s1.heap.objs.size (.au xs),I1.laid (λb u e=>aJ _ e) (aA _) ?_,rfl,q _ hf⟩
 exact⟨z,us,r,oi.new _ _⟩
def Gd(h:PA X es t):PE X (.List es pos) (YH t):=by
 intro ah s σ H Q I hq;refine wpAny_List_spliced (thn (h pos ah s σ H _ I hq) λus s1 ⟨xs,H1,I1,r,z,q⟩=>⟨by rw[<-r.length];exact z,?_⟩)
 have hf:=I1.hok.fresh (aA _);refine⟨.ref s1.heap.objs.size,cU H1 s1.heap.objs.size (.lst xs),I1.laid (λb u e=>aJ _ e) (aA _) ?_,rfl,q _ hf⟩
 exact⟨z,us,0,r,bL _ rfl⟩
end
abbrev Sp:=List V->Hp->VK->XK->Prop
abbrev Dq:=List Env->Hp->Shared->XK->Value->Shared->Prop
structure Env0 (P:Program) (w:World) (K:W.Frag) (mg:Str->Option Value) (base:Heap) (A:Around) (aC:List Env) (s:Shared) (H:Hp):Prop where
 frames:A.frames=some aC
 mod:Mod K mg base
 bs:∀b o,base.get? b=some o->s.heap.get? b=some o/\H b=none
 bsz:base.objs.size<=s.heap.objs.size
 funs:s.heap.FunFrames base aC
 frf:∀b∈lL aC,H b=none
 hok:lF P w H s.heap
 bare:AllBare s.gens
 tabs:qg K H
def CE(aC:List Env)(P:Program)(w:World)(H:Hp)(s:Shared)(Q:VK)(u:Value)(s':Shared):Prop :=
 ∃v H',s'.os=s.os/\AllBare s'.gens/\Un (lL aC) [] H H' s.heap s'.heap/\lF P w H' s'.heap/\RelV v u/\Q v H'
def CR(CX:Dq)(aC:List Env)(P:Program)(w:World)(H:Hp)(s:Shared)(Q:VK)(E:XK)(r:Result)(s':Shared):Prop :=
 match r with
 | .ok (.ret u)=>CE aC P w H s Q u s'
 | .ok _=>False
 | .error e=>CX aC H s E e s'
structure FnOk (P:Program) (w:World) (K:W.Frag) (mg:Str->Option Value) (base:Heap) (CX:Dq) (k:Nat) (f:Addr) (fd:FuncData) (ps:List Str) (sp:Sp):Prop where
 len:∀vs H Q E,sp vs H Q E->vs.length=ps.length
 run:∀(A:Around) (aC:List Env) (s:Shared) (H:Hp) (args:Args) (us:List Value) (vs:List V) (Q:VK) (E:XK),c7 k A->Env0 P w K mg base A aC s H->BindsTo s fd args (ps.zip us)->Vals vs us->sp vs H Q E ->
  codeAny (model P w) A (.call (.ref f) args) (CR CX aC P w H s Q E) s
def Env0.make{P:Program}{w:World}{K:W.Frag}{mg:Str->Option Value}{base:Heap}{A:Around}{aC:List Env}{s:Shared}{H:Hp}(e:Env0 P w K mg base A aC s H)(C:Addr)(us:List Value)(kw:List (Str×Value)) :
  Env0 P w K mg base (A.under (.builtin "type.__call__" ⟨.ref C::us,kw⟩)) aC s H:=⟨by first | exact e.frames | (simpa[Around.under,Code.envs,Code.isFrame,pushEnvs]using e.frames),e.mod,e.bs,e.bsz,e.funs,e.frf,e.hok,e.bare,e.tabs⟩
section
variable {X:Cx} {ah:List (Addr×Obj)} {σ:St} {H:Hp} {s s':Shared}
def Inv.OU(I:Inv X ah σ H s):Env0 X.prog X.w X.K X.mg X.base X.A X.stack s H :=
 ⟨I.ok.frames,I.ok.mod,I.bs,aR I.ok.bsz I.sz,I.stack,I.vt,I.hok,I.bare,I.tabs⟩
def Inv.after(I:Inv X ah σ H s)(h:CE X.stack X.prog X.w H s Q u s'):EP X ah σ Q u s':=by
 obtain⟨v,H',os,bare,un,hok,r,q⟩:=h;obtain⟨hh,g,d,t,TY⟩:=s';obtain rfl:TY=s.os:=os;exact⟨v,H',I.call un hok bare (λb z=>absurd z (by simp)),r,q⟩
end
def BN(C:Addr)(sp:Sp)(jA:List V)(E:XK)(t:TA):TE:=λσ H Q=>t σ H λvs H1=>∀x dx,H1 x=none->H1 dx=none->dx≠x ->
 sp (.ref x::(vs++jA)) (cU (cU H1 dx (.own x)) x (.ins C dx [])) (λv H2=>v=.aL/\Q (.ref x) H2) E
def vB(CX:Dq)(X:Cx)(E:XK):Prop:=∀(ah:List (Addr×Obj)) (σ:St) (H:Hp) (s:Shared) (e:Value) (s':Shared),Inv X ah σ H s->CX X.stack H s E e s'->X.xe e s'
section
variable {X:Cx} {CX:Dq} {k:Nat} {f C:Addr} {fd:FuncData} {ps:List Str} {sp:Sp} {jA:List V} {ds:List Value} {E:XK} {x m:Str} {p pos eR:Pos} {e o:Expr} {es:List Expr} {ta:TE} {t:TA}
def xE{ah:List (Addr×Obj)}{σ:St}{H:Hp}{s:Shared}{Q:VK}{us:List Value}{vs:List V}(M:Mk X.K C f)(F:FnOk X.prog X.w X.K X.mg X.base CX k f fd ps sp)(hr:c7 (k+1) X.A)(hb:cM X.K fd ps ds)(hd:Vals jA ds)
  (hx:vB CX X E) (I:Inv X ah σ H s) (r:Vals vs us)
  (h:∀x dx,H x=none->H dx=none->dx≠x->sp (.ref x::(vs++jA)) (cU (cU H dx (.own x)) x (.ins C dx [])) (λv H2=>v=.aL/\Q (.ref x) H2) E) :
  wpAny (model X.prog X.w) X.A (call (.ref C) us) (EP X ah σ Q) X.xe s:=by
 have hq:=h (s.heap.objs.size+1) s.heap.objs.size (I.hok.fresh (Nat.le_succ _)) (I.hok.fresh (aA _)) (bC (pO _));have I2:=Inv.made (C:=C) I;have r2:Vals (V.ref (s.heap.objs.size+1)::(vs++jA)) (Value.ref (s.heap.objs.size+1)::(us++ds)):=.cons rfl (r.append hd);have hl:(Value.ref (s.heap.objs.size+1)::us++ds).length=ps.length:=by
  have e:=r2.length;rw[F.len _ _ _ _ hq]at e;exact e.symm
 refine wpAny_call (Gb I.oj M.makes M.init (iF.mp M.fn) (pX (F.run _ X.stack _ _ ⟨Value.ref (s.heap.objs.size+1)::us,[]⟩ (Value.ref (s.heap.objs.size+1)::(us++ds)) _ _ E (hr.make C us [])
  (I2.OU.make C us []) (hb _ (Value.ref (s.heap.objs.size+1)::us) I2.oj hl) r2 hq) λr s' TZ=>?_))
 cases r with
 | error e=>exact hx ah σ _ _ e s' I2 TZ
 | ok fl =>
  cases fl with
  | ret u =>
   obtain⟨v,H',I3,rv,ev,q3⟩:=I2.after TZ;subst ev;exact⟨rv,⟨V.ref (s.heap.objs.size+1),H',I3,rfl,q3⟩⟩
  | next=>exact False.elim TZ
  | brk=>exact False.elim TZ
  | cont=>exact False.elim TZ
def Ke(M:Mk X.K C f)(F:FnOk X.prog X.w X.K X.mg X.base CX k f fd ps sp)(hr:c7 (k+1) X.A)(hg:Gl X x)(hm:X.mg x=some (.ref C))(hb:cM X.K fd ps ds)(hd:Vals jA ds)(hx:vB CX X E)
  (ha:PA X (e::es) t) (Aj:(x==("__debug__":Str))=false:=by decide) (he:starEach (e::es) X.env=(false,eval e X.env)::starEach es X.env:=by rfl) (qd:(backTo pos (starEach es X.env)).any (·.1)=false:=by rfl) :
  PE X (.Call (.Name x p) (e::es) [] pos) (BN C sp jA E t):=by
 intro ah s σ H Q I h;refine jq (ld_glob I hg hm ?_ Aj);refine W.callWith_K I.ok.mod.kin M.kp (thn (ha pos ah s σ H _ I h) λus s1 ⟨vs,H1,I1,r,q⟩=>⟨I1.oj,?_⟩) he qd
 exact xE M F hr hb hd hx I1 r q
end
theorem tm{kindOf:Str->Option NameKind}:∀{xF:List (Str×Value)} {m:Str->Option Value},(∀v,(x,v)∉xF)->bindL kindOf xF m x=m x
 | [],_,_=>rfl
 | (n,v)::r,m,h=>by
  unfold bindL;rw[tm λw hw=>h w (cG _ hw)]
  split
  ·grind
  ·rfl
theorem tq{kindOf:Str->Option NameKind}:∀{xF:List (Str×Value)} {m:Str->Option Value},(∀v,(x,v)∉xF)->bindC kindOf xF m x=m x
 | [],_,_=>rfl
 | (n,v)::r,m,h=>by
  unfold bindC;rw[tq λw hw=>h w (cG _ hw)]
  split
  ·rfl
  ·grind
theorem tu{kindOf:Str->Option NameKind}:∀{P:List Str} {vs:List Value} {i:Nat} {m:Str->Option Value},P.Nodup->P[i]?=some x->vs[i]?=some v->kindOf x=some .local ->
  bindL kindOf (P.zip vs) m x=some v
 | [],_,_,_,_,h,_,_=>by simp at h
 | _::_,[],_,_,_,_,h,_=>by simp at h
 | p::P,w::vs,0,m,nd,h1,h2,hk=>by
  simp at h1 h2;subst h1;subst h2;show bindL kindOf ((p,w)::P.zip vs) m p=_;unfold bindL;rw[tm λv hv=>(kP.mp nd).1 (zV hv).1,if_pos hk]
  simp
 | p::P,w::vs,i+1,m,nd,h1,h2,hk=>by
  unfold bindL;exact tu (kP.mp nd).2 (by simpa using h1) (by grind) hk
theorem tx{kindOf:Str->Option NameKind}:∀{P:List Str} {vs:List Value} {i:Nat} {m:Str->Option Value},P.Nodup->P[i]?=some x->vs[i]?=some v->kindOf x≠some .local ->
  bindC kindOf (P.zip vs) m x=some v
 | [],_,_,_,_,h,_,_=>by simp at h
 | _::_,[],_,_,_,_,h,_=>by simp at h
 | p::P,w::vs,0,m,nd,h1,h2,hk=>by
  simp at h1 h2;subst h1;subst h2;show bindC kindOf ((p,w)::P.zip vs) m p=_;unfold bindC;rw[tq λv hv=>(kP.mp nd).1 (zV hv).1,if_neg hk]
  simp
 | p::P,w::vs,i+1,m,nd,h1,h2,hk=>by
  unfold bindC;exact tx (kP.mp nd).2 (by simpa using h1) (by grind) hk
noncomputable def start(N:List Str)(vs:List V):St:=vs.map some++List.replicate (N.length-vs.length) none
noncomputable def fq(CX:Dq)(P:Program)(w:World)(K:W.Frag)(mg:Str->Option Value)(base:Heap)(N:List Str)(qual:Str)(scope:Scope)(f:Addr)(cd:Value)(A:Around)(aC:List Env)(s:Shared)(H:Hp)(E:XK):Cx where
 prog:=P
 w:=w
 K:=K
 mg:=mg
 base:=base
 A:=A.deeper (envOfC qual scope s.heap.objs.size f cd)
 N:=N
 s₀:=s
 af:=H
 env:=envOfC qual scope s.heap.objs.size f cd
 aC:=aC
 stack:=envOfC qual scope s.heap.objs.size f cd::aC
 ex:=[]
 calm:=true
 fn:=λ_=>true
 pn:=[]
 xe:=λe s'=>wpAny (model P w) (A.deeper (envOfC qual scope s.heap.objs.size f cd)) (leaving (envOfC qual scope s.heap.objs.size f cd) e) (λ_ T3=>CX aC H s E e T3) (λe' T3=>CX aC H s E e' T3) s'
def xG{sc:Scope}(h:sc.names.lookup x=some .cell):∃c,(cellsFrom n sc.names []).lookup x=some c:=by
 have q:=W.cellsFrom_some sc.names n [] (.inl h);exact Option.isSome_iff_exists.mp q
def DH{CX:Dq}{P:Program}{w:World}{K:W.Frag}{mg:Str->Option Value}{base:Heap}{N ps:List Str}{qual:Str}{scope:Scope}{f:Addr}{cd:Value}{A:Around}{aC:List Env}{s s1:Shared}{H:Hp}{E:XK}{us:List Value}{vs:List V}
  (S:cN N ps scope) (hd:A.handled=none) (e0:Env0 P w K mg base A aC s H) (hl:vs.length=ps.length) (r:Vals vs us)
  (x:InCallC s s.heap.objs.size (bindL (envOfC qual scope s.heap.objs.size f cd).kindOf (ps.zip us) λ_=>none) (cellsFrom (s.heap.objs.size+1) scope.names []) (bindC (envOfC qual scope s.heap.objs.size f cd).kindOf (ps.zip us) λ_=>none) s1) :
  Inv (fq CX P w K mg base N qual scope f cd A aC s H E) [] (start N vs) H s1:=by
 have qd:ps.length<=N.length:=by have:=dH List.length S.pre;rw[kM]at this;lia
 obtain⟨h1,tk,rfl,hk⟩:=x.done;have noA:∀b:Addr,b∉(fq CX P w K mg base N qual scope f cd A aC s H E).ex:=λb z=>absurd (show b∈([]:List Addr)from z) (by simp)
 refine⟨⟨e0.mod,S.kind,rfl,rfl,aA _,λy z c h1 h2=>?_,λy hy=>?_,λy c _ h=>?_,λ_=>hd,Around.frames_deeper e0.frames,.inr ⟨rfl,rfl⟩,λb z=>absurd z (noA b),e0.bs,e0.bsz,λb _ _=>noA b,λb z=>absurd z (noA b),e0.funs,e0.frf,e0.tabs⟩,
  rfl,e0.bare,Un.kept hk,⟨_,x.toInCall.ns,λi y v h1 h2 h3=>?_⟩,λy c h=>⟨_,x.cell y c h⟩,e0.hok.fresh (aA _),λy c h=>?_,λp hp=>absurd (show p∈([]:List (Addr×Obj))from hp) (by simp),e0.hok.kept hk,?_⟩
 ·exact name_of_addr x.apart (fF h1) (fF h2)
 ·have hy:=hy;rcases hy with hy | hy
  ·exact xG hy
  ·exact absurd rfl (S.nofree _ (fF hy))
 ·exact pZ (x.above y c (fF h))
 ·have hi:i<vs.length:=by
   unfold start at h2;by_cases hi:i<vs.length
   ·exact hi
   ·grind
  have ha:vs[i]?=some v:=by
   unfold start at h2;rw[fB (by grind),cY]at h2
   cases e:vs[i]? with
   | none=>rw[e]at h2;cases h2
   | some a=>rw[e]at h2;cases h2;rfl
  obtain⟨u,hu,rv⟩:=r.get ha;have hp:ps[i]?=some y:=by
   rw[<-S.pre,List.getElem?_take_of_lt (by lia)];exact h1
  have ndP:ps.Nodup:=by rw[<-S.pre];exact S.nd.sublist (List.take_sublist _ _)
  refine⟨u,rv,?_⟩;rcases S.par y (uM hp)with k | k
  ·exact .inl ⟨k,tu ndP hp hu k⟩
  ·obtain⟨c,e⟩:=xG k;refine .inr ⟨.inl k,c,e,?_⟩;have q:=x.cell y c e;rw[tx ndP hp hu (by show scope.names.lookup y≠_;rw[k];decide)]at q
   exact q
 ·exact e0.hok.fresh (pZ (x.above y c (fF h)))
 ·unfold start;show _=N.length;rw[bB,aT,mT]
  lia
def MU{CX:Dq}{P:Program}{w:World}{K:W.Frag}{mg:Str->Option Value}{base:Heap}{k:Nat}{f:Addr}{name qual:Str}{pq9:Arguments}{body:List Stmt}{scope:Scope}{dV kV doc pm cV ct oc:Value}{an od:Option Addr}
  {p8:Array (Option Value)} {N ps:List Str} {sp:Sp} (lk:K.lookup f=some ⟨oc,od,.func (W.fnOf name qual pq9 body scope dV kV doc pm an cV ct),p8⟩) (w6:W.codeIn K cV qual=true) (S:cN N ps scope)
  (len:∀vs H Q E,sp vs H Q E->vs.length=ps.length)
  (hbody:∀(A:Around) (aC:List Env) (s:Shared) (H:Hp) (vs:List V) (Q:VK) (E:XK),c7 k (A.deeper (envOfC qual scope s.heap.objs.size f cV))->sp vs H Q E ->
   ∃t,PSs (fq CX P w K mg base N qual scope f cV A aC s H E) body t/\t {nx:=λ_ H'=>Q .aL H',rt:=Q} (start N vs) H) :
  FnOk P w K mg base CX (k+1) f (W.fnOf name qual pq9 body scope dV kV doc pm an cV ct) ps sp:=by
 refine⟨len,λA aC s H args us vs Q E hr e0 hb r MV=>?_⟩
 have hl:=len _ _ _ _ MV;have KX:=e0.mod.kin.keeps λb o e=>(e0.bs b o e).1
 have lim:=e0.mod.nolimit.keeps λb o e=>(e0.bs b o e).1
 have T4:∀y∈ps.zip us,scope.names.lookup y.1=some .local\/(scope.names.lookup y.1=some .cell/\((cellsFrom (s.heap.objs.size+1) scope.names []).lookup y.1).isSome=true):=by
  rintro⟨n,v⟩ hy
  rcases S.par n (zV hy).1 with q | q
  ·grind
  ·exact .inr ⟨q,W.cellsFrom_some _ _ _ (.inl q)⟩
 refine codeAny_call_function hr.depth (KX _ _ lk) rfl S.co S.gen rfl (W.codeRec_of KX w6) (hb _ _ _ _ ?_);refine wpAny_newFunctionEnv_cells S.kind T4 λenv he s1 x=>?_
 subst he;refine⟨lim.keeps x.toInCall.keep,codeAny_func ?_⟩;obtain⟨t,ht,hq⟩:=hbody A aC s H vs Q E (hr.deeper _) MV;have I:Inv (fq CX P w K mg base N qual scope f cV A aC s H E) [] (start N vs) H s1:=DH S hr.hd e0 hl r x;refine jz (ht [] s1 (start N vs) H _ I hq) (λfl s' hs=>?_) λe s' hs=>hs
 have iJ:∀{bF:St} {H':Hp} {v:V} {u:Value},Inv (fq CX P w K mg base N qual scope f cV A aC s H E) [] bF H' s'->RelV v u->Q v H'->CE aC P w H s Q u s' :=
  λ{bF H' v u} J rv q=>⟨v,H',J.os,J.bare,J.base,J.hok,rv,q⟩
 cases fl with
 | ret u =>
  obtain⟨v,bF,H',J,rv,q⟩:=hs;exact iJ J rv q
 | next =>
  obtain⟨bF,H',J,q⟩:=hs;exact iJ (v:=V.aL) J rfl q
 | brk =>
  obtain⟨_,_,_,q⟩:=hs;exact False.elim q
 | cont =>
  obtain⟨_,_,_,q⟩:=hs;exact False.elim q
section
variable {X:Cx} {x:Str} {p pos:Pos} {e:Expr} {es:List Expr} {t:TA} {id T:String} {r:List V->Hp->VK->Prop}
def YI(r:List V->Hp->VK->Prop)(t:TA):TE:=λσ H Q=>t σ H λvs H1=>r vs H1 Q
def qw(hc:kz X (.builtin id) r)(hg:Gl X x)(hm:X.mg x=none)(hv:bootBuiltins x=some (.builtin id))(ha:PA X (e::es) t)(hn:x≠"__name__":=by decide)(Aj:(x==("__debug__":Str))=false:=by decide)
  (he:starEach (e::es) X.env=(false,eval e X.env)::starEach es X.env:=by rfl) (qd:(backTo pos (starEach es X.env)).any (·.1)=false:=by rfl):PE X (.Call (.Name x p) (e::es) [] pos) (YI r t):=by
 intro ah s σ H Q I h;refine jq (ld_blt I hg hm hv ?_ hn Aj);exact PyProof.Rows.callWith_builtin1 (thn (ha pos ah s σ H _ I h) (by rintro us s1 ⟨vs,H1,I1,r1,q1⟩;exact hc ah s1 σ H1 vs us Q I1 r1 q1)) he qd
def nC(hc:kz X (.type T) r)(hg:Gl X x)(hm:X.mg x=none)(hv:bootBuiltins x=some (.type T))(ha:PA X (e::es) t)(hn:x≠"__name__":=by decide)(Aj:(x==("__debug__":Str))=false:=by decide)
  (he:starEach (e::es) X.env=(false,eval e X.env)::starEach es X.env:=by rfl) (qd:(backTo pos (starEach es X.env)).any (·.1)=false:=by rfl):PE X (.Call (.Name x p) (e::es) [] pos) (YI r t):=by
 intro ah s σ H Q I h;refine jq (ld_blt I hg hm hv ?_ hn Aj);exact hZ (thn (ha pos ah s σ H _ I h) (by rintro us s1 ⟨vs,H1,I1,r1,q1⟩;exact hc ah s1 σ H1 vs us Q I1 r1 q1)) he qd
end
end L2
namespace HT
open PySem PyProof.Rows
section
variable {prog:Program} {w:World} {A:Around} {E:Value->Shared->Prop} {s:Shared}
def Kf(ht:IsTup s.heap t vs.toArray)(hb:IsTup s.heap b ws.toArray)(hv:vs≠[])
  (h1:ws=[]->Q (.ref t) s) (h2:ws≠[]->Q (.ref s.heap.objs.size) {s with heap:=s.heap.push {cls:=.type "tuple",data:=.seq (vs++ws).toArray}})
  (hsz:vs.length+ws.length<=sizeLine):wpAny (model prog w) A (binaryOp .Add (.ref t) (.ref b)) Q E s:=by
 obtain⟨⟨cls,dd,data,sl⟩,ho,hc,n,hd⟩:=id ht;obtain⟨⟨YJ,Xl,T5,OW⟩,OX,OY,n2,hd2⟩:=id hb;simp only at hc hd OY hd2;subst hc hd OY hd2;have e:vs.toArray++ws.toArray=(vs++ws).toArray:=by simp
 by_cases hw:ws=[]
 ·exact concat_meets ⟨_,ho,rfl⟩ ⟨_,OX,rfl⟩ zK seq_tuple_add zx zq (zk _ _)
   (tuple_addW1 t b vs.toArray ws.toArray n n2 dd Xl sl OW (by grind) (by simp[hw])) ⟨ho,OX,h1 hw⟩
 ·refine concat_meets ⟨_,ho,rfl⟩ ⟨_,OX,rfl⟩ zK seq_tuple_add zx zq (zk _ _)
   (tuple_addW2 t b vs.toArray ws.toArray n n2 dd Xl sl OW (by grind) (by grind) (by grind)) ⟨ho,OX,?_⟩
  rw[e];exact h2 hw
noncomputable def ee(n d:Nat):Option Int->Nat
 | none=>d
 | some v=>if v<0 then(v+(n:Int)).toNat else min v.toNat n
def xH(n d:Nat):ee n d none=d:=rfl
def oX(n d k:Nat):ee n d (some (k:Int))=min k n:=by
 show(if(k:Int)<0 then((k:Int)+(n:Int)).toNat else min (k:Int).toNat n)=min k n
 rw[if_neg (by lia),kH]
def OZ(n d:Nat)(hd:d<=n)(o:Option Int):ee n d o<=n:=by
 cases o with
 | none=>exact hd
 | some v =>
  show(if v<0 then(v+(n:Int)).toNat else min v.toNat n)<=n
  by_cases hv:v<0
  ·grind
  ·grind
def BO(v:Int)(n d:Nat):(if v<0 then max (v+(n:Int)) 0 else min v (n:Int))=((ee n d (some v):Nat):Int):=by
 show(if v<0 then max (v+(n:Int)) 0 else min v (n:Int))=(((if v<0 then(v+(n:Int)).toNat else min v.toNat n):Nat):Int)
 by_cases hv:v<0
 ·grind
 ·grind
def Av(lo hi:Option Int)(n:Nat):Builtin.Slice.sliceAdjust lo hi 1 (n:Int)=(((ee n 0 lo:Nat):Int),((ee n n hi:Nat):Int)):=by
 have h1:¬(1<0):=by lia
 unfold Builtin.Slice.sliceAdjust;simp only[h1,cK];refine Prod.ext ?_ ?_
 ·cases lo with
  | none=>rfl
  | some v=>exact BO v n 0
 ·cases hi with
  | none=>rfl
  | some v=>exact BO v n n
def Aw(i j:Nat):Builtin.Slice.slicePlaces (i:Int) (j:Int) 1=j-i:=by
 unfold Builtin.Slice.slicePlaces;have h1:1>0:=by lia
 simp only[h1,eI,Int.ediv_one];split<;>lia
def qy(p:IsPart v o)(h:Q o s):wpAny (model prog w) A (Builtin.Slice.slicePartIndex v) Q E s:=by
 cases p with
 | none=>exact slicePart_none h
 | int i t=>exact slicePart_int h
def il{vl vu:Value}{lo hi:Option Int}{n:Nat}{Q:Int×Int×Nat->Shared->Prop}(hs:s.heap.IsSliceOf sl vl vu .none)(pl:IsPart vl lo)(pu:IsPart vu hi)
  (h:Q (((ee n 0 lo:Nat):Int),1,ee n n hi-ee n 0 lo) s):wpAny (model prog w) A (Builtin.Slice.sliceApplied (.ref sl) (pure (n:Int))) Q E s:=by
 obtain⟨os,Jq,Xm,T6⟩:=id hs;unfold Builtin.Slice.sliceApplied Builtin.Slice.sliceFields;refine ai (ai (cJ Jq T6 rfl (ai (cJ Jq T6 rfl (ai (cJ Jq T6 rfl (ar ?_)))))));refine ai (slicePart_none ?_);rw[if_neg (by decide)]
 refine ai (qy pl (ai (qy pu (ai (ar ?_)))));show wpAny _ _ (match Builtin.Slice.sliceAdjust lo hi 1 (n:Int)with | (lo,hi)=>pure (lo,(1:Int),Builtin.Slice.slicePlaces lo hi 1)) _ _ s
 rw[Av lo hi n];show wpAny _ _ (pure (((ee n 0 lo:Nat):Int),(1:Int),Builtin.Slice.slicePlaces ((ee n 0 lo:Nat):Int) ((ee n n hi:Nat):Int) 1)) _ _ s;rw[Aw];exact ar h
def Ge(xs:Array Value)(i k:Nat):((List.range k).filterMap fun(m:Nat)=>xs[((i:Int)+(m:Int)*1).toNat]?).toArray=((xs.toList.drop i).take k).toArray:=by
 have e:(fun(m:Nat)=>xs[(i+(m:Int)*1).toNat]?)=λm=>xs[i+m]?:=by
  grind
 rw[e];have:=pick_run xs i k;rw[List.filterMap_map]at this;have e2:((λx=>xs[x]?) ∘ λx=>i+x)=λm=>xs[i+m]?:=rfl
 rw[e2]at this;rw[this]
def lO{items:Array Value}{vl vu:Value}{lo hi:Option Int}{Q:Value->Shared->Prop}(ht:IsTup s.heap t items)(hs:s.heap.IsSliceOf sl vl vu .none)(pl:IsPart vl lo)(pu:IsPart vu hi)
  (hw:¬(ee items.size 0 lo=0/\ee items.size items.size hi=items.size))
  (h:Q (.ref s.heap.objs.size) {s with heap:=s.heap.push {cls:=.type "tuple",data:=.seq ((items.toList.drop (ee items.size 0 lo)).take (ee items.size items.size hi-ee items.size 0 lo)).toArray}})
  (hsz:items.size<=sizeLine):wpAny (model prog w) A (getItem (.ref t) (.ref sl)) Q E s:=by
 have BP:sizeOk (.seq ((items.toList.drop (ee items.size 0 lo)).take (ee items.size items.size hi-ee items.size 0 lo)).toArray):=by
  show((items.toList.drop (ee items.size 0 lo)).take (ee items.size items.size hi-ee items.size 0 lo)).toArray.size<=sizeLine;rw[cx,kM,zL,mW]
  lia
 have hj:ee items.size items.size hi<=items.size:=OZ _ _ (aA _) hi;obtain⟨os,Jq,Xm,T6⟩:=id hs;have hTs:s.TypeIs (.ref sl) "slice":=⟨os,Jq,Xm⟩;unfold getItem
 try with_reducible refine dY ?_
 first | refine ai (ar ?_) | skip
 refine ai (wpAny_sequenceKey ht.typeIs (by decide) ?_)
 refine ai (f9 ht.typeIs mS
  (fH mS ht.typeIs entry_tuple_getitem ?_ (args_tuple_getitem _ _)))
 show wpAny _ _ (Builtin.Tuple.tupleItemsOf (.ref t) >>= _) _ _ s;refine ai (tupleItemsOf_ ht ?_);refine ai (nv hTs ?_);rw[if_pos (by decide)]
 refine ai (il hs pl pu ?_);have hno:¬((((ee items.size 0 lo:Nat):Int)==0&&(1:Int)==1&&(ee items.size items.size hi-ee items.size 0 lo)==items.size)=true):=by
  grind
 show wpAny _ _ (if(((ee items.size 0 lo:Nat):Int)==0&&(1:Int)==1&&(ee items.size items.size hi-ee items.size 0 lo)==items.size)=true then _ else _) _ _ s
 rw[if_neg hno,Ge]
 first
  | exact ai (m:=Builtin.Tuple.tupleExact _) (kG (ar ⟨_,rfl,ar h⟩) BP)
  | exact ai (m:=Builtin.Tuple.tupleExact _) (kG (ai (ar (ar ⟨_,rfl,ar h⟩))) BP)
  | exact ai (ai (m:=Builtin.Tuple.tupleExact _) (kG (ar (ar ⟨_,rfl,ar h⟩)) BP))
  | exact ai (ai (m:=Builtin.Tuple.tupleExact _) (kG (ar ⟨_,rfl,ar h⟩) BP))
end
end HT
namespace L2
open PySem PySem.Spec PyProof.Rows
abbrev TO:=St->Hp->(Option Int->Hp->Prop)->Prop
def PO(X:Cx)(e:Option Expr)(t:TO):Prop :=
 ∀(ah:List (Addr×Obj)) (s:Shared) (σ:St) (H:Hp) (Q:Option Int->Hp->Prop),Inv X ah σ H s->t σ H Q ->
  wpAny (model X.prog X.w) X.A (evalPart e X.env) (λu s'=>∃o H',Inv X ah σ H' s'/\IsPart u o/\Q o H') X.xe s
def Kg:TO:=λ_ H Q=>Q none H
def T7(t:TE):TO:=λσ H Q=>t σ H λx H1=>∃i,x=.int i/\Q (some i) H1
def Ax:∀{us:List Value},Vals (ns.map V.int) us->IntsAre us ns:=by
 induction ns with
 | nil=>intro us r;rw[dZ]at r;cases r;exact .nil
 | cons n ns ih =>
  intro us r;rw[aP]at r;cases r with
  | cons r1 r2 =>
   obtain⟨t,e⟩:=r1;subst e;exact .cons n t (ih r2)
section
variable {X:Cx} {e:Expr} {te:TE} {lo hi:Option Expr} {tl th:TO} {pos p2:Pos}
def Kh:PO X none Kg:=by
 intro ah s σ H Q I h;rw[evalPart_none];exact ar ⟨none,H,I,.none,h⟩
def Ki(h:PE X e te):PO X (some e) (T7 te):=by
 intro ah s σ H Q I hw;rw[evalPart_some];refine thn (h ah s σ H _ I hw) λu s1 ⟨x,H1,I1,r1,q1⟩=>?_
 obtain⟨i,rfl,q⟩:=q1;obtain⟨t,rfl⟩:=r1;exact⟨some i,H1,I1,.int i t,q⟩
def Xn(X:Cx)(r:V->Option Int->Option Int->Hp->VK->Prop):Prop :=
 ∀(ah:List (Addr×Obj)) (s:Shared) (σ:St) (H:Hp) (x:V) (v vl vu:Value) (lo hi:Option Int) (sl:Addr) (Q:VK),Inv X ah σ H s->RelV x v->s.heap.IsSliceOf sl vl vu .none->IsPart vl lo->IsPart vu hi->r x lo hi H Q ->
  ∃T id,typeLookup (.type T) "__getitem__"=pure (some (.builtin id))/\s.TypeIs v T/\wpAny (model X.prog X.w) X.A (getItem v (.ref sl)) (EP X ah σ Q) X.xe s
def tSl(r:V->Option Int->Option Int->Hp->VK->Prop)(te:TE)(tl th:TO):TE:=λσ H Q=>te σ H λx H1=>tl σ H1 λl H2=>th σ H2 λu H3=>r x l u H3 Q
def Gf{r:V->Option Int->Option Int->Hp->VK->Prop}(hr:Xn X r)(he:PE X e te)(hl:PO X lo tl)(hu:PO X hi th):PE X (.Subscript e (.Slice lo hi none p2) pos) (tSl r te tl th):=by
 intro ah s σ H Q I h;refine Subscript_ (thn (he ah s σ H _ I h) λv s1 ⟨x,H1,I1,r1,q1⟩=>?_)
 refine wpAny_Slice (thn (hl ah s1 σ H1 _ I1 q1) λvl s2 ⟨l,H2,I2,pl,q2⟩=>thn (hu ah s2 σ H2 _ I2 q2) λvu s3 ⟨u,H3,I3,pu,q3⟩=>?_)
 rw[evalPart_none];refine ar ?_;have I4:Inv X ah σ H3 {s3 with heap:=s3.heap.push {cls:=.type "slice",data:=.fields #[vl,vu,.none]}}:=I3.kept λb ob q=>aJ _ q
 obtain⟨T,id,hT,ht,hg⟩:=hr ah {s3 with heap:=s3.heap.push {cls:=.type "slice",data:=.fields #[vl,vu,.none]}} σ H3 x v vl vu l u s3.heap.objs.size Q I4 r1 (Heap.IsSliceOf.new ..) pl pu q3
 show wpAny (model X.prog X.w) X.A (subscriptTail e (.Slice lo hi none p2) v (.ref s3.heap.objs.size)) (EP X ah σ Q) X.xe {s3 with heap:=s3.heap.push {cls:=.type "slice",data:=.fields #[vl,vu,.none]}}
 exact nz ht hT hg (by with_unfolding_all rfl)
def xI(xs:List V)(lo hi:Option Int):List V:=(xs.drop (HT.ee xs.length 0 lo)).take (HT.ee xs.length xs.length hi-HT.ee xs.length 0 lo)
def nV(xs:List V)(lo hi:Option Int):(xI xs lo hi).length<=xs.length:=by
 unfold xI;rw[kM,zL]
 lia
def YK(K:W.Frag):V->Option Int->Option Int->Hp->VK->Prop:=λx lo hi H Q=>∃a xs,x=.ref a/\iG K H a xs /\
 ¬(HT.ee xs.length 0 lo=0/\HT.ee xs.length xs.length hi=xs.length)/\∀p,H p=none->Q (.ref p) (cU H p (.au (xI xs lo hi)))
def O0:Xn X (YK X.K):=by
 intro ah s σ H x v vl vu lo hi sl Q I rx hs pl pu h;obtain⟨a,xs,rfl,hx,hw,q⟩:=h;cases rx;obtain⟨ax,r,ht,hz⟩:=I.tuple hx;have eX:ax.toArray.size=xs.length:=by rw[cx];exact r.length.symm
 refine⟨"tuple",_,mS.lookup,ht.typeIs,?_⟩;refine HT.lO ht hs pl pu (by grind) ?_ (by grind)
 rw[eX];refine⟨.ref s.heap.objs.size,_,I.laid (λb ob q=>aJ _ q) (aA _) ?_,rfl,q _ (I.hok.fresh (aA _))⟩
 exact⟨aR (nV xs lo hi) hz,_,(r.drop (HT.ee xs.length 0 lo)).take (HT.ee xs.length xs.length hi-HT.ee xs.length 0 lo),oi.new _ _⟩
def T8(K:W.Frag):R2:=λx y H Q=>∃a b xs ys,x=.ref a/\y=.ref b/\iG K H a xs/\iG K H b ys/\xs≠[]/\xs.length+ys.length<=sizeLine /\
 (ys=[]->Q (.ref a) H)/\(ys≠[]->∀p,H p=none->Q (.ref p) (cU H p (.au (xs++ys))))
def Vals.vC(r:Vals xs us):us=[]↔xs=[]:=by
 cases r with
 | nil=>simp
 | cons _ _=>simp
def Kj:OpR X (binaryOp .Add) (T8 X.K):=by
 intro ah s σ H x y v u Q I rx ry h;obtain⟨a,b,xs,ys,rfl,rfl,ha,hb,hx,hz,q1,q2⟩:=h;cases rx;cases ry;obtain⟨ax,r1,p1,_⟩:=I.tuple ha;obtain⟨eK,r2,p2,_⟩:=I.tuple hb;refine HT.Kf p1 p2 (λz=>hx (r1.vC.mp z)) (λz=>⟨.ref a,H,I,rfl,q1 (r2.vC.mp z)⟩) (λz=>?_) (by rw[<-r1.length,<-r2.length];exact hz)
 refine⟨.ref s.heap.objs.size,_,I.laid (λb ob q=>aJ _ q) (aA _) ?_,rfl,q2 (λw=>z (r2.vC.mpr w)) _ (I.hok.fresh (aA _))⟩
 exact⟨by grind,_,r1.append r2,oi.new _ _⟩
end
noncomputable def DI(n:Nat)(i:Int):Option Nat:=if 0<=i then(if i<n then some i.toNat else none)else if -(n:Int)<=i then some (i+n).toNat else none
def sh{α:Type}(xs:List α)(i:Int):Option α:=(DI xs.length i).bind λj=>xs[j]?
def BQ(h:DI n i=some j):seqIndex? i n=some j/\j<n /\ -(n:Int)<=i/\i<n:=by
 unfold DI at h;by_cases h0:0<=i
 ·rw[if_pos h0]at h;by_cases h1:i<n
  ·rw[if_pos h1]at h;have e:=aZ h;exact⟨by rw[seqIndex_of h0 h1,e],by lia,by lia,h1⟩
  ·grind
 ·rw[if_neg h0]at h;by_cases h1:-n<=i
  ·rw[if_pos h1]at h;have e:=aZ h;exact⟨by rw[seqIndex_neg (by lia) h1,e],by lia,h1,by lia⟩
  ·grind
def vD{α:Type}{xs:List α}{i:Int}{v:α}(h:sh xs i=some v):∃j,seqIndex? i xs.length=some j/\xs[j]?=some v/\j<xs.length /\ -(xs.length:Int)<=i/\i<xs.length:=by
 unfold sh at h;cases e:DI xs.length i with
 | none=>rw[e]at h;cases h
 | some j =>
  rw[e]at h;obtain⟨h1,h2,h3,h4⟩:=BQ e;exact⟨j,h1,h,h2,h3,h4⟩
def atI_nat{α:Type}{xs:List α}{j:Nat}{v:α}(h:xs[j]?=some v):sh xs (j:Int)=some v:=by
 have hj:=(dF.mp h).1;have e:DI xs.length j=some j:=by
  unfold DI;rw[if_pos (by lia),if_pos (by lia)];simp
 unfold sh;rw[e];exact h
def lP(b:Expr):Prop:=∀o i,subscripted b false o i=operate [o,i] (getItem o i)
def Ss(X:Cx)(r:R2):Prop :=
 ∀(value slice:Expr) (ah:List (Addr×Obj)) (s:Shared) (σ:St) (H:Hp) (x y:V) (v u:Value) (Q:VK),Inv X ah σ H s->RelV x v->RelV y u->r x y H Q ->
  subscripted slice false v u=operate [v,u] (getItem v u)->wpAny (model X.prog X.w) X.A (subscriptTail value slice v u) (EP X ah σ Q) X.xe s
def MtR(X:Cx)(id:String)(r:V->List V->Hp->VK->Prop):Prop :=
 ∀(ah:List (Addr×Obj)) (s:Shared) (σ:St) (H:Hp) (x:V) (xs:List V) (v:Value) (us:List Value) (Q:VK),Inv X ah σ H s->RelV x v->Vals xs us->r x xs H Q ->
  wpAny (model X.prog X.w) X.A (call (.builtin id) (v::us)) (EP X ah σ Q) X.xe s
section
variable {X:Cx} {a b:Expr} {ta tb:TE} {pos:Pos}
def Gg(hr:Ss X r)(ha:PE X a ta)(hb:PE X b tb)(hs:lP b):PE X (.Subscript a b pos) (TK r ta tb):=by
 intro ah s σ H Q I h;exact Subscript_ (OG ha hb I h λv u s2 x y H2 I2 rx ry q=>hr a b ah s2 σ H2 x y v u Q I2 rx ry q (hs _ _))
def YL(K:W.Frag):R2:=λx y H Q=>∃p xs i v,x=.ref p/\y=.int i/\vx K H p xs/\sh xs i=some v/\Q v H
def YM(K:W.Frag):R2:=λx y H Q=>∃p xs i v,x=.ref p/\y=.int i/\iG K H p xs/\sh xs i=some v/\Q v H
def YN:R2:=λx y H Q=>∃z i c,x=.str z/\y=.int i/\z.length<=sizeLine/\sh z.cps.toList i=some c/\Q (.str ⟨#[c]⟩) H
def Kk:Ss X (YL X.K):=by
 intro value slice ah s σ H x y v u Q I rx ry h hs;obtain⟨p,xs,i,z,rfl,rfl,hq,he,q⟩:=h;cases rx;obtain⟨t,rfl⟩:=ry;obtain⟨ax,r,pl,hz⟩:=I.list hq;obtain⟨j,h1,h2,h3,h4,h5⟩:=vD he;obtain⟨w,ew,Kl⟩:=r.get h2;have hl:=r.length;have hn:=kX;have iJ:EP X ah σ Q w s:=⟨z,H,I,Kl,q⟩;by_cases h0:0<=i
 ·have hj:i.toNat=j:=by
   rw[seqIndex_of h0 h5]at h1;exact aZ h1
  exact item_listR pl.isList h0 (by lia) (by grind) iJ hs
 ·have hj:(i+(ax.toArray.size:Int)).toNat=j:=by
   rw[seqIndex_neg (by lia) h4]at h1
   rw[cx,<-hl];exact aZ h1
  exact subscriptTail_builtinR pl.isList.typeIs slot_list_getitem.lookup
   (wpAny_getItem_list_neg pl.isList (by lia) (by grind) (by lia) (by grind) ⟨rfl,iJ⟩) hs
def O1:Ss X (YM X.K):=by
 intro value slice ah s σ H x y v u Q I rx ry h hs;obtain⟨p,xs,i,z,rfl,rfl,hq,he,q⟩:=h;cases rx;obtain⟨t,rfl⟩:=ry;obtain⟨ax,r,pl,hz⟩:=I.tuple hq;obtain⟨j,h1,h2,h3,h4,h5⟩:=vD he;obtain⟨w,ew,Kl⟩:=r.get h2;have hl:=r.length;have hn:=kX;have iJ:EP X ah σ Q w s:=⟨z,H,I,Kl,q⟩;exact subscriptTail_builtinR pl.typeIs slot_tuple_getitem.lookup
  (getItem_tuple pl (by lia) (by lia) (by rw[cx,<-hl];exact h1) (by grind) ⟨rfl,iJ⟩) hs
def O2:Ss X YN:=by
 intro value slice ah s σ H x y v u Q I rx ry h hs;obtain⟨z,i,c,rfl,rfl,hz,he,q⟩:=h;obtain⟨t,rfl⟩:=rx;obtain⟨t',rfl⟩:=ry;obtain⟨j,h1,h2,h3,h4,h5⟩:=vD he;have hl:z.cps.toList.length=z.length:=by simp[Str.length]
 rw[hl]at h1 h4 h5;have hn:=kX;exact nz (typeIs_str s z t) slot_str_getitem.lookup (getItem_str (by
  grind) (by grind) ⟨.str ⟨#[c]⟩,H,I.tok _,⟨_,rfl⟩,q⟩) hs
def Ay(ax:List Value)(n j:Nat)(u:Value):Obj.mapSeq (·.setIfInBounds j u) {cls:=.type "list",data:=.seq ax.toArray n}={cls:=.type "list",data:=.seq (ax.set j u).toArray n}:=by
 simp[Obj.mapSeq]
def Inv.lst{ah:List (Addr×Obj)}{σ:St}{H:Hp}{s:Shared}{p:Addr}{xs:List V}(I:Inv X ah σ H s)(h:H p=some (.lst xs)) :
  ∃(ax:List Value) (n:Nat),Vals xs ax/\s.heap.get? p=some {cls:=.type "list",data:=.seq ax.toArray n}/\xs.length<=sizeLine:=by
 obtain⟨z,ax,n,r,e⟩:=I.hok p _ h;exact⟨ax,n,r,e,z⟩
def Inv.O3{ah:List (Addr×Obj)}{σ:St}{H:Hp}{s:Shared}{p:Addr}{xs ys:List V}{ax its':List Value}{n n':Nat}{f:Obj->Obj}(I:Inv X ah σ H s)(h:H p=some (.lst xs))
  (ho:s.heap.get? p=some {cls:=.type "list",data:=.seq ax.toArray n}) (hf:f {cls:=.type "list",data:=.seq ax.toArray n}={cls:=.type "list",data:=.seq its'.toArray n'}) (r:Vals ys its') (hz:ys.length<=sizeLine) (t:Nat) :
  Inv X ah σ (cU H p (.lst ys)) {s with heap:=s.heap.update p f,toks:=t}:=by
 have e:(s.heap.update p f).get? p=some {cls:=.type "list",data:=.seq its'.toArray n'}:=by
  rw[mU f ho (by rw[hf]<;>rfl),hf]
 refine I.write (by rw[h];trivial) (.inl rfl) (λb u hb q=>(jo _ _ (bU hb)).trans q) ⟨_,e⟩ ?_
 exact⟨hz,its',n',r,e⟩
def T9:V->V->V->Hp->(Hp->Prop)->Prop:=λo i v H Q=>∃p xs k j,o=.ref p/\i=.int k/\H p=some (.lst xs)/\DI xs.length k=some j/\Q (cU H p (.lst (xs.set j v)))
def Gh:FU X T9:=by
 intro ah s σ H o i v ov iv u Q I ro ri rv h;obtain⟨p,xs,k,j,rfl,rfl,hp,hj,q⟩:=h;cases ro;obtain⟨t,rfl⟩:=ri;obtain⟨ax,n,r,ho,hz⟩:=I.lst hp;obtain⟨h1,h2,h3,h4⟩:=BQ hj;have hl:=r.length;have hn:=kX;have I':Inv X ah σ (cU H p (.lst (xs.set j v))) {s with heap:=s.heap.update p (Obj.mapSeq (·.setIfInBounds j u))} :=
  I.O3 hp ho (Ay ax n j u) (r.set rv j) (by grind) s.toks
 by_cases h0:0<=k
 ·have hk:k.toNat=j:=by
   rw[seqIndex_of h0 h4]at h1;exact aZ h1
  exact W.ki_setAt ho h0 (by lia) (by grind) (by grind)
 ·have hk:(k+(ax.toArray.size:Int)).toNat=j:=by
   rw[seqIndex_neg (by lia) h3]at h1
   rw[cx,<-hl];exact aZ h1
  exact W.ki_setBack ho (by lia) (by grind) (by lia) (by grind)
def vE(lo hi:Option Int)(n:Nat):(sliceBounds lo hi none n).1=((HT.ee n 0 lo:Nat):Int)/\(sliceBounds lo hi none n).2.1=((HT.ee n n hi:Nat):Int)/\(sliceBounds lo hi none n).2.2=1:=by
 refine⟨?_,?_,rfl⟩
 ·cases lo with
  | none=>simp[sliceBounds,HT.ee]
  | some i =>
   simp only[sliceBounds,HT.ee,zN,show 1>0 by decide,eI]
   by_cases h:i<0
   ·grind
   ·grind
 ·cases hi with
  | none=>simp[sliceBounds,HT.ee]
  | some i =>
   simp only[sliceBounds,HT.ee,zN,show 1>0 by decide,eI]
   by_cases h:i<0
   ·grind
   ·grind
def sH(ax:List Value)(lo hi:Option Int):slicePick ax.toArray lo hi none=((ax.drop (HT.ee ax.length 0 lo)).take (HT.ee ax.length ax.length hi-HT.ee ax.length 0 lo)).toArray:=by
 obtain⟨h1,h2,h3⟩:=vE lo hi ax.toArray.size;unfold slicePick;rw[h1,h2,h3];simp only[sliceRange_one,pick_run,cx]<;>rfl
def YO(K:W.Frag):V->Option Int->Option Int->Hp->VK->Prop:=λx lo hi H Q=>∃a xs,x=.ref a/\vx K H a xs/\∀p,H p=none->Q (.ref p) (cU H p (.lst (xI xs lo hi)))
def Km:Xn X (YO X.K):=by
 intro ah s σ H x v vl vu lo hi sl Q I rx hs pl pu h;obtain⟨a,xs,rfl,hx,q⟩:=h;cases rx;obtain⟨ax,r,ht,hz⟩:=I.list hx;have eX:=r.length;refine⟨"list",_,slot_list_getitem.lookup,ht.isList.typeIs,?_⟩;refine wpAny_getItem_list_slice ht.isList hs pl pu .none (by simp) ?_ (by grind)
 rw[sH,<-eX];refine⟨.ref s.heap.objs.size,_,I.laid (λb ob q=>aJ _ q) (aA _) ?_,rfl,q _ (I.hok.fresh (aA _))⟩
 exact⟨aR (nV xs lo hi) hz,_,0,(r.drop (HT.ee xs.length 0 lo)).take (HT.ee xs.length xs.length hi-HT.ee xs.length 0 lo),bL _ rfl⟩
def lQ:kz X (.builtin "len") (λxs H Q=>∃p ys,xs=[.ref p]/\(vx X.K H p ys\/iG X.K H p ys)/\Q (.int ys.length) H):=by
 intro ah s σ H xs us Q I r h;obtain⟨p,ys,rfl,hq,q⟩:=h;obtain⟨u,rfl,rx⟩:=jF r;cases rx;have hn:=kX;rcases hq with hq | hq
 ·obtain⟨ax,r',pl,hz⟩:=I.list hq;have eX:=r'.length;exact Calls.call_len_list pl.isList (by grind) ⟨.int ys.length,H,I.tok _,⟨s.toks+1,by grind⟩,q⟩
 ·obtain⟨ax,r',pl,hz⟩:=I.tuple hq;have eX:=r'.length;exact len_tuple pl (by grind) ⟨.int ys.length,H,I.tok _,⟨s.toks+1,by grind⟩,q⟩
def vF:kz X (.builtin "len") (λxs H Q=>∃z,xs=[.str z]/\z.length<=sizeLine/\Q (.int z.length) H):=by
 intro ah s σ H xs us Q I r h;obtain⟨z,rfl,hz,q⟩:=h;obtain⟨u,rfl,t,rfl⟩:=jF r;have hn:=kX;exact len_str (by lia) ⟨.int z.length,H,I.tok _,⟨_,rfl⟩,q⟩
def kA:kz X (.type "tuple") (λxs H Q=>∃p ys,xs=[.ref p]/\((vx X.K H p ys/\∀l,H l=none->Q (.ref l) (cU H l (.au ys)))\/(iG X.K H p ys/\Q (.ref p) H))):=by
 intro ah s σ H xs us Q I r h;obtain⟨p,ys,rfl,h⟩:=h;obtain⟨u,rfl,rx⟩:=jF r;cases rx;rcases h with⟨hq,q⟩ | ⟨hq,q⟩
 ·obtain⟨ax,r',pl,hz⟩:=I.list hq;have eX:=r'.length;refine call_tuple_list pl.isList (λh' kp=>?_) (by grind)
  have I1:=I.kept (t':=s.toks) kp;have I2:Inv X ah σ (cU H h'.objs.size (.au ys)) {s with heap:=h'.push {cls:=.type "tuple",data:=.seq ax.toArray}} :=
   I1.laid (λb o e=>aJ _ e) (aA _) (⟨hz,ax,r',oi.new _ _⟩)
  exact⟨.ref h'.objs.size,_,I2,rfl,q _ (I1.hok.fresh (aA _))⟩
 ·obtain⟨ax,r',pl,hz⟩:=I.tuple hq;exact call_tuple_same pl ⟨.ref p,H,I,rfl,q⟩
def tyV(K:W.Frag)(T:String)(x:V)(H:Hp):Prop:=match x with
 | .str _=>T="str"
 | .int _=>T="int"
 | .ref p=>(T="list"/\∃xs,vx K H p xs)\/(T="tuple"/\∃o,K.lookup p=some o/\o.cls=.type "tuple"/\o.dict=none) \/
   (T="dict"/\((∃kvs,H p=some (.dK kvs))\/∃kvs,H p=some (.dT kvs)))\/(T="set"/\∃S n,H p=some (.set S n))
 | _=>False
def Gi{ah:List (Addr×Obj)}{σ:St}{H:Hp}{s:Shared}{T:String}{x:V}{v:Value}(I:Inv X ah σ H s)(r:RelV x v)(ty:tyV X.K T x H) :
  s.TypeIs v T/\∀a,v=.ref a->∃ob,s.heap.get? a=some ob/\ob.dict=none:=by
 cases x with
 | str z =>
  obtain⟨t,rfl⟩:=r;cases(ty);exact⟨typeIs_str s z t,λ_ e=>nomatch e⟩
 | int i =>
  obtain⟨t,rfl⟩:=r;cases(ty);exact⟨p7 s i t,λ_ e=>nomatch e⟩
 | ref p =>
  cases r;rcases ty with⟨rfl,xs,hq⟩ | ⟨rfl,o,hk,hc,hd⟩ | ⟨rfl,hk⟩ | ⟨rfl,S,n,hk⟩
  ·obtain⟨ax,_,pl,_⟩:=I.list hq;refine⟨pl.isList.typeIs,λa e=>?_⟩
   cases e;obtain⟨o,n,e,c,hd,_⟩:=pl;exact⟨o,e,hd⟩
  ·refine⟨⟨o,I.oj p o hk,hc⟩,λa e=>?_⟩
   cases e;exact⟨o,I.oj _ o hk,hd⟩
  ·have z:∃o,s.heap.get? p=some o/\o.ExactDict:=by
    rcases hk with⟨kvs,hk⟩ | ⟨kvs,hk⟩
    ·obtain⟨_,_,_,_,o,_,_,e,ex,_⟩:=I.hok p _ hk;exact⟨o,e,ex⟩
    ·obtain⟨_,_,o,_,_,e,ex,_⟩:=(I.hok p _ hk);exact⟨o,e,ex⟩
   obtain⟨o,e,ex⟩:=z;refine⟨⟨o,e,ex.1⟩,λa e2=>?_⟩
   cases e2;exact⟨o,e,ex.2.1⟩
  ·obtain⟨o,_,_,_,e,ex,_⟩:=I.hok p _ hk;refine⟨⟨o,e,ex.1⟩,λa e2=>?_⟩
   cases e2;exact⟨o,e,ex.2.1⟩
 | _=>exact False.elim ty
def Ua(K:W.Frag)(T:String)(r:V->List V->Hp->VK->Prop)(to:TE):TE:=λσ H Q=>to σ H λx H1=>tyV K T x H1/\r x [] H1 Q
def tBM(K:W.Frag)(T:String)(r:V->List V->Hp->VK->Prop)(to:TE)(t:TA):TE:=λσ H Q=>to σ H λx H1=>tyV K T x H1/\t σ H1 λxs H2=>r x xs H2 Q
variable {o e:Expr} {es:List Expr} {to:TE} {t:TA} {name:Str} {eR iM:Pos} {T id:String} {r:V->List V->Hp->VK->Prop}
def O4(pa:PlainAttrs T)(slot:Slot T name id)(YQ:typeOf (.builtin id)=pure (.type "method_descriptor"))(hm:MtR X id r)(ho:PE X o to)
  (lR:attributeBase o name X.env (eval o X.env)=eval o X.env:=by rfl) (lS:(eR.endLine==iM.line)=true:=by rfl):PE X (.Call (.Attribute o name eR) [] [] iM) (Ua X.K T r to):=by
 intro ah s σ H Q I h;refine wpAny_Call_method0_late lR lS (thn (ho ah s σ H _ I h) λv s1 z9=>?_)
 obtain⟨x,H1,I1,r1,ty,q1⟩:=z9;obtain⟨h1,h2⟩:=Gi I1 r1 ty;exact⟨T,id,pa,slot,YQ,h1,h2,Calls.callWith_builtin rfl (PySem.evalArgs_none (hm ah s1 σ H1 x [] v [] Q I1 r1 .nil q1))⟩
def MW(pa:PlainAttrs T)(slot:Slot T name id)(YQ:typeOf (.builtin id)=pure (.type "method_descriptor"))(hm:MtR X id r)(ho:PE X o to)(ha:PA X (e::es) t)
  (lR:attributeBase o name X.env (eval o X.env)=eval o X.env:=by rfl)
  (Kn:((backTo iM (starEach (e::es) X.env)).all (λx=>!x.1)&&(backToKw iM (keywordEach [] X.env)).all (λx=>x.1.isSome)
   && decide ((e::es).length+([]:List Keyword).length+(if([]:List Keyword).isEmpty then 0 else 1)<30))=true:=by rfl)
  (lS:(eR.endLine==iM.line)=true:=by rfl) (hs:starEach (e::es) X.env=(false,eval e X.env)::starEach es X.env:=by rfl) (YR:(backTo iM (starEach es X.env)).any (·.1)=false:=by rfl) :
  PE X (.Call (.Attribute o name eR) (e::es) [] iM) (tBM X.K T r to t):=by
 intro ah s σ H Q I h;refine wpAny_Call_method_late lR Kn lS rfl (thn (ho ah s σ H _ I h) λv s1 z9=>?_)
 obtain⟨x,H1,I1,r1,ty,q1⟩:=z9;obtain⟨h1,h2⟩:=Gi I1 r1 ty;refine⟨T,id,pa,slot,YQ,h1,h2,?_⟩;have hA:=ha iM ah s1 σ H1 _ I1 q1;rw[hs]at hA ⊢;refine Calls.callWith_builtin (by grind) (Calls.evalArgs_plain ?_)
 exact thn hA (by rintro us s2 ⟨vs,H2,I2,r2,q2⟩;exact hm ah s2 σ H2 x vs v us Q I2 r1 r2 q2)
end
def YS(X:Cx)(id:String)(r:V->List V->Hp->VK->Prop):Prop :=
 ∀(ah:List (Addr×Obj)) (s:Shared) (σ:St) (H:Hp) (x:V) (xs:List V) (v:Value) (us:List Value) (Q:VK),Inv X ah σ H s->RelV x v->Vals xs us->r x xs H Q ->
  wpAny (model X.prog X.w) X.A (call (.builtin id) (v::us)) (EP X ah σ Q) X.xe s
theorem Vals.one:∀{x:V} {us:List Value},Vals [x] us->∃u,us=[u]/\RelV x u
 | _,_,.cons r .nil=>⟨_,rfl,r⟩
def Vals.two{x y:V}{us:List Value}(h:Vals [x,y] us):∃u v,us=[u,v]/\RelV x u/\RelV y v:=by
 cases h with
 | cons r h=>cases h with
  | cons q h=>cases h;exact⟨_,_,rfl,r,q⟩
theorem Vals.zero:∀{us:List Value},Vals [] us->us=[]
 | _,.nil=>rfl
section
variable {X:Cx} {ah:List (Addr×Obj)} {σ:St} {H:Hp} {s:Shared} {l b:Addr} {xs ys zs:List V}
def Inv.O5{ax its':List Value}{n:Nat}{f:Array Value->Array Value}{t':Nat}(I:Inv X ah σ H s)(hH:H l=some (.lst xs))
  (e:s.heap.get? l=some {cls:=.type "list",data:=.seq ax.toArray n}) (hf:f ax.toArray=its'.toArray) (hv:Vals ys its') (hz:ys.length<=sizeLine) :
  Inv X ah σ (cU H l (.lst ys)) {s with heap:=s.heap.update l (Obj.mapSeq f),toks:=t'}:=by
 have q:=PySem.IsL.update e f;rw[hf]at q;refine I.write (by rw[hH];exact trivial) (.inl rfl) (λb' u hb hu=>(jo s.heap (Obj.mapSeq f) (bU hb)).trans hu) ⟨_,q⟩ ?_
 exact⟨hz,its',_,hv,q⟩
def Inv.O6(I:Inv X ah σ H s)(hv:Vals ys ax)(hz:ys.length<=sizeLine) :
  Inv X ah σ (cU H s.heap.objs.size (.lst ys)) {s with heap:=s.heap.push {cls:=.type "list",data:=.seq ax.toArray},toks:=t'} :=
 I.laid (λ_ _ q=>aJ _ q) (aA _) ⟨hz,ax,0,hv,bL _ rfl⟩
def Inv.fresh(I:Inv X ah σ H s):H s.heap.objs.size=none:=I.hok.fresh (aA _)
def Inv.dN(I:Inv X ah σ H s)(hH:H l=some (.lst xs)):xs.length<=sizeLine/\∃(ax:List Value) (n:Nat),Vals xs ax/\xs.length=ax.length/\s.heap.get? l=some {cls:=.type "list",data:=.seq ax.toArray n}:=by
 obtain⟨z,ax,n,r,e⟩:=I.hok l _ hH;exact⟨z,ax,n,r,r.length,e⟩
def xJ(h:n<=sizeLine):Builtin.List.listTooLong n=false:=by
 unfold Builtin.List.listTooLong;exact cZ (by lia)
end
section
variable {X:Cx}
def BR:V->List V->Hp->VK->Prop:=λx vs H Q=>∃l xs y,x=.ref l/\vs=[y]/\H l=some (.lst xs)/\xs.length<sizeLine/\Q .aL (cU H l (.lst (xs++[y])))
def DJ:YS X "list.append" BR:=by
 intro ah s σ H x vs v us Q I rx rv h;obtain⟨l,xs,y,rfl,rfl,hH,hz,q⟩:=h;cases rx;obtain⟨u,rfl,ru⟩:=rv.one;obtain⟨z,ax,n,r,hl,e⟩:=I.dN hH;refine gh F.slot_list_append ⟨_,e,rfl⟩ F.entry_list_append (F.args_list_append_2 _ _) (PySem.list_append l ax.toArray n u (by grind)) ⟨e,?_⟩
 refine⟨.aL,_,I.O5 hH e (by simp) (r.append (.cons ru .nil)) ?_,rfl,q⟩
 rw[bB,List.length_singleton]
 lia
end
end L2
namespace Att
open PySem PySem.W PySem.Calls PyProof.Rows
def oq:∀(ns:List Int) (vs:List Value),WellAll P h vs (ns.map WData.int)->IntsAre vs ns:=by
 intro ns;induction ns with
 | nil =>
  intro vs w;rw[dZ]at w;cases w;exact .nil
 | cons n ns ih =>
  intro vs w;rw[aP]at w;cases w with
  | cons a b =>
   cases a;exact .cons _ _ (ih _ b)
def DK{l:OpenLaw}(hn:l.most=some n) 
  (Ko:l.row.toRowW.claim.pre args=true) (YT:WellAll P h Ub args) :
  ∃a vs ns,Ub=[Value.ref a]/\args=[WData.list (ns.map WData.int)]/\h.get? a=some {cls:=.type "list",data:=.seq vs.toArray}/\IntsAre vs ns/\ns.length<=n:=by
 have hsh:=(pre_splitW Ko).1;have hc:l.pre.holds [] {args:=args}=true:=(pre_splitW Ko).2
 obtain⟨d,r,rfl,h1,h2⟩:=hasAllW_cons hsh;obtain rfl:=hasAllW_nil h2;obtain⟨xs,rfl,h3⟩:=hasW_list h1;obtain⟨ns,rfl⟩:=items_int h3;have eX:ns.length<=n:=by
  unfold OpenLaw.pre at hc;have h4:(WTm.not (.lt (.lit (.int n)) (.len (.arg 0)))).holds [] {args:=[.list (ns.map .int)]}=true:=by
   have h4:=(holds_andW hc).1;rw[hn]at h4;exact h4
  have h5:=condW_of h4 (w_not (w_lt w_lit (w_len_list (w_arg rfl))));rw[aT]at h5;refine zR λq=>?_
  have q':n<(ns.length:Nat):=by lia
  first
   | (rw[dW q']at h5;exact absurd h5 (by decide))
   | (simp at h5;lia)
 cases YT with
 | cons w1 w2 =>
  cases w2;cases w1 with
  | list ho hall=>exact⟨_,_,ns,rfl,rfl,ho,oq ns _ hall,eX⟩
def DL(l:OpenLaw)(args:List WData):l.row.toRowW.claim.post args (.bool true) args=true :=
 postW_of
  (show WShape.has [] (.bool true) .bool=true by first | rfl | decide | simp[WShape.has,WShape.arms,WShape.armsAll])
  (w_eq_bool (w_res rfl) w_lit) rfl
def xK{l:OpenLaw}{n:Nat}{loose:List Str}{XP:(Str->Option Value)->Heap->Prop}{YP:World->Heap->Prop}{d:DefRec}
  (hn:l.most=some n) (Td:d.params.defaults=[])
  (call:∀(w:World) (s₀ s₁:Shared) (mg mb:Str->Option Value) (fa:Addr) (o:Obj) (pm cd doc:Value) (a:Addr) (vs:List Value) (ns:List Int),
   Ground q loose [] XP w s₀ mg mb s₁.heap->YP w s₁.heap ->
   s₁.heap.get? fa=some o->o.data=.func (docDef d.name d.params d.body d.scope pm cd doc)->s₁.heap.CodeRec cd d.name->mg d.name=some (.ref fa) ->
   s₁.heap.get? a=some {cls:=.type "list",data:=.seq vs.toArray}->IntsAre vs ns->ns.length<=n->s₁.gens=#[] ->
   codeAny (model l.prog w) callerA (.call (.ref fa) ⟨[.ref a],[]⟩) (λr s'=>r=.ok (.ret (.bool true))/\OldK s₁.heap s'.heap/\s'.os=s₁.os/\AllBare s'.gens) s₁) :
  WalkO q loose XP YP l.row.toRowW d [] (λf vs=>PySem.call f vs):=by
 intro w s₀ s₁ mg mb G Y fa o pm cd doc dV kV ho hd w6 hD Su hg args Ub as Ko adi EY YT hlo;obtain rfl:dV=.none:=Dflts.none hD Td;obtain rfl:kV=.none:=Dflts.noKw hD;obtain⟨a,vs,ns,rfl,rfl,Gj,Gk,eX⟩:=DK hn Ko YT;refine enter_call (pX (call w s₀ s₁ mg mb fa o pm cd doc a vs ns G Y ho (fd_plain hd) w6 Su Gj Gk eX hg) λr s' hq=>?_)
 obtain⟨rfl,h2,h3,h4⟩:=hq;exact⟨.inl ⟨.bool true,.bool true,[],rfl,λ_=>rfl,.bool true,DL l _,λ_=>⟨List.Pairwise.nil,λ_ hm=>(nomatch hm)⟩⟩,h2,h3,h4⟩
end Att
namespace L2
open PySem PySem.Spec PyProof.Rows
theorem tD:∀{vs:List Value} {ns:List Int},IntsAre vs ns->Vals (ns.map V.int) vs
 | _,_,.nil=>.nil
 | _,_,.cons n t h=>.cons ⟨t,rfl⟩ (tD h)
def DM{P:Program}{w:World}{K:W.Frag}{mg mb:Str->Option Value}{CX:Dq}{k:Nat}{fa a:Addr}{fd:FuncData}{x:Str}{sp:Sp}{s₁:Shared}{vs:List Value}{ns:List Int}{tabs:List (Addr×Str)}
  (KX:K.In s₁.heap) (Gn:s₁.heap.Ns mainGlobals mg) (hb:s₁.heap.Ns builtinsNs mb) (Sv:∀x:Str,x≠"__name__"->mb x=bootBuiltins x) (Az:s₁.heap.NoLimit) (hg:s₁.gens=#[])
  (hT:∀b q,tabs.lookup b=some q->s₁.heap.get? b=some {cls:=.none,data:=.fields #[]}/\isCodeTable s₁.heap b/\K.lookup b=none) (hTI:∀H:Hp,(∀b q,tabs.lookup b=some q->H b=some (.zZ q))->qg K H)
  (ha:s₁.heap.get? a=some {cls:=.type "list",data:=.seq vs.toArray}) (hi:IntsAre vs ns) (hl:ns.length<=sizeLine) (hr:c7 k callerA)
  (F:∀base:Heap,K.In base->base.Ns mainGlobals mg->FnOk P w K mg base CX k fa fd [x] sp) (Uc:∀(s:Shared) (u:Value),BindsTo s fd ⟨[u],[]⟩ [(x,u)])
  (MV:∀H:Hp,iH K H a (ns.map V.int)->sp [.ref a] H (λv _=>v=.bl true) λ_ _ _=>False) (hCX:∀H e s',CX [] H s₁ (λ_ _ _=>False) e s'->False) :
  codeAny (model P w) callerA (.call (.ref fa) ⟨[.ref a],[]⟩) (λr s'=>r=.ok (.ret (.bool true))/\OldK s₁.heap s'.heap/\s'.os=s₁.os/\AllBare s'.gens) s₁:=by
 have rv:=tD hi;have ki:=hi.length
 let oa:Obj:={cls:=.type "list",data:=.seq vs.toArray}
 let H:Hp:=λb=>if b=a/\K.lookup a=none then some (.xm oa (.lst (ns.map V.int)))else(tabs.lookup b).map HO.zZ
 have YU:∀b,H b=if b=a/\K.lookup a=none then some (.xm oa (.lst (ns.map V.int)))else(tabs.lookup b).map HO.zZ:=λ_=>rfl
 have hHt:∀b q,tabs.lookup b=some q->H b=some (.zZ q):=λb q e=>by
  grind
 have hH:∀b u,H b=some u->(b=a/\K.lookup a=none/\u=.xm oa (.lst (ns.map V.int)))\/∃q,tabs.lookup b=some q/\u=.zZ q:=λb u e=>by
  rw[YU]at e;by_cases h:b=a/\K.lookup a=none
  ·grind
  ·rw[if_neg h]at e;cases z:tabs.lookup b with
   | none=>rw[z]at e;cases e
   | some q=>rw[z]at e;cases e;exact .inr ⟨q,rfl,rfl⟩
 have hS:iH K H a (ns.map V.int):=by
  cases hk:K.lookup a with
  | some o =>
   have e:=KX a o hk;rw[ha]at e;cases e;exact .inr ⟨vs,_,hk,by grind,rv⟩
  | none=>exact .inl (.inr ⟨oa,by grind⟩)
 have hok:lF P w H s₁.heap:=λb u e=>by
  rcases hH b u e with⟨rfl,_,rfl⟩ | ⟨q,hq,rfl⟩
  ·exact⟨ha,by grind,vs,_,rv,ha⟩
  ·exact⟨#[],(hT b q hq).1,trivial,λpos cv z=>by cases z⟩
 have noD:∀{b:Addr} {o:Obj} {es:Array DictEntry} {ep:Nat},s₁.heap.get? b=some o->o.data=.dict es ep->H b=none:=λ{b o es ep} e d=>by
  cases q:H b with
  | none=>rfl
  | some u =>
   rcases hH b u q with⟨rfl,_,_⟩ | ⟨t,ht,_⟩
   ·grind
   ·grind
 have Xo:∀{b:Addr} {m:Str->Option Value},s₁.heap.Ns b m->(xy s₁.heap H).Ns b m:=λ{b m} ⟨o,es,ep,e,d,r⟩=>⟨o,es,ep,hidT_get e (noD e d),d,r⟩
 have hKb:K.In (xy s₁.heap H):=λb o e=>hidT_get (KX b o e) (by
  cases q:H b with
  | none=>rfl
  | some u =>
   rcases hH b u q with⟨rfl,z,_⟩ | ⟨t,ht,_⟩
   ·grind
   ·rw[(hT b t ht).2.2]at e;cases e)
 have hM:Mod K mg (xy s₁.heap H):=⟨hKb,Xo Gn,⟨mb,Xo hb,Sv⟩,let ⟨mc,h1,h2⟩:=Az;⟨mc,Xo h1,h2⟩⟩
 have e0:Env0 P w K mg (xy s₁.heap H) callerA [] s₁ H:=⟨rfl,hM,λb o e=>of_hidT e,jy (DA _ _),trivial,λb hb=>absurd (show b∈([]:List Addr)from hb) (by simp),hok,.of_eq hg,hTI H hHt⟩
 refine pX ((F _ hKb (Xo Gn)).run callerA [] s₁ H ⟨[.ref a],[]⟩ [.ref a] [.ref a] _ _ hr e0 (Uc s₁ (.ref a)) (.cons rfl .nil) (MV H hS)) λr s' h=>?_
 cases r with
 | error e=>exact(hCX H e s' h).elim
 | ok fl =>
  cases fl with
  | next=>exact False.elim h
  | brk=>exact False.elim h
  | cont=>exact False.elim h
  | ret u =>
   obtain⟨v,H',os,bare,un,Ud,r',q⟩:=h;have q':=q;subst q';obtain rfl:u=Value.bool true:=r';have noF:∀b:Addr,b∉lL []:=λb z=>absurd (show b∈([]:List Addr)from z) (by simp)
   refine⟨rfl,⟨λb o e=>?_,λb o e=>un.there b o e (by simp)⟩,os,bare⟩
   cases q:H b with
   | none=>exact .inl (un.keep b o e q (noF b) (by simp))
   | some u =>
    rcases hH b u q with⟨rfl,_,rfl⟩ | ⟨t,ht,rfl⟩
    ·obtain⟨e2,_⟩:=Ud b _ (un.frzs b _ _ q);rw[ha]at e;cases e;exact .inl e2
    ·obtain⟨h1,h2,_⟩:=hT b t ht;obtain⟨ps,e2,_⟩:=(Ud b _ (un.tbls b _ q));rw[h1]at e;cases e;exact .inr (.inl ⟨h2,rfl,#[],ps,rfl,by grind⟩)
abbrev E0:XK:=λ_ _ _=>False
section
variable {X:Cx}
def pv(i:Nat){x:Str}{pos:Pos}(hN:X.N[i]?=some x:=by rfl)(hv:Sn X.env.scope x:=by first | exact Or.inl rfl | exact Or.inr (Or.inl rfl) | exact Or.inr (Or.inr rfl))(hd:(x==("__debug__":Str))=false:=by decide)
  (w6:(x==("__classdict__":Str))=false:=by decide):PE X (.Name x pos) (JQ i):=pe_var hN hv hd w6
end
def cz(H H':Hp):Prop:=∀b o,H b=some o->H' b=some o
def cz.refl(H:Hp):cz H H:=λ_ _ h=>h
def cz.trans(a:cz H H1)(b:cz H1 H2):cz H H2:=λc o h=>b c o (a c o h)
def cz.free(e:cz H H')(h:H' l=Option.none):H l=Option.none:=by
 cases q:H l with
 | none=>rfl
 | some o =>
  rw[e l o q]at h;cases h
def cz.seq{K:W.Frag}{H H':Hp}{a:Addr}{xs:List V}(e:cz H H')(h:vx K H a xs):vx K H' a xs:=by
 rcases h with(h | ⟨o,h⟩) | h
 ·exact .inl (.inl (e _ _ h))
 ·exact .inl (.inr ⟨o,e _ _ h⟩)
 ·exact .inr h
section
variable {κ:Type} [DecidableEq κ]
noncomputable def ot(kvs:List (κ×V))(k:κ):Option V:=(kvs.find? λkv=>decide (kv.1=k)).map (·.2)
noncomputable def putK(kvs:List (κ×V))(k:κ)(v:V):List (κ×V) :=
 if(kvs.any λkv=>decide (kv.1=k))=true then kvs.map (λkv=>if kv.1=k then(kv.1,v)else kv)else kvs++[(k,v)]
def lU{p:κ×V}{r:List (κ×V)}{k:κ}(e:p.1=k):ot (p::r) k=some p.2:=by simp[ot,pP,e]
def lV{p:κ×V}{r:List (κ×V)}{k:κ}(e:¬p.1=k):ot (p::r) k=ot r k:=by simp[ot,pP,e]
theorem xM(k:κ):∀kvs:List (κ×V),(kvs.any λkv=>decide (kv.1=k))=(ot kvs k).isSome
 | []=>rfl
 | p::r=>by
  rw[nc];by_cases e:p.1=k
  ·simp only[lU e,dW e,Bool.true_or,Option.isSome_some]
  ·rw[lV e,cZ e,Bool.false_or];exact xM k r
def oh.tF{o:Option V}{u:Option Value}(r:oh o u):o.isSome=u.isSome:=by
 cases o with
 | none=>cases u with
  | none=>rfl
  | some _=>exact(show False from r).elim
 | some _=>cases u with
  | none=>exact(show False from r).elim
  | some _=>rfl
def KV.val{kvs:List (κ×V)}{vs:List (κ×Value)}(r:KV kvs vs)(k:κ):oh (ot kvs k) (valueAt vs k):=by
 unfold KV at r;induction r with
 | nil=>exact True.intro
 | @cons p q ps qs h t ih =>
  obtain⟨h1,h2⟩:=h;by_cases e:p.1=k
  ·have e':q.1=k:=by grind
   have b:valueAt (q::qs) k=some q.2:=by simp[valueAt,pP,e']
   rw[lU e,b];exact h2
  ·have e':¬q.1=k:=by grind
   have b:valueAt (q::qs) k=valueAt qs k:=by simp[valueAt,pP,e']
   rw[lV e,b];exact ih
def KV.any{kvs:List (κ×V)}{vs:List (κ×Value)}(r:KV kvs vs)(k:κ):(kvs.any λkv=>decide (kv.1=k))=vs.any λkv=>decide (kv.1=k):=by
 unfold KV at r;induction r with
 | nil=>rfl
 | cons h t ih=>rw[nc,nc,ih,h.1]
def KV.YV{kvs:List (κ×V)}{vs:List (κ×Value)}(r:KV kvs vs)(k:κ){y:V}{u:Value}(ry:RelV y u) :
  KV (kvs.map λkv=>if kv.1=k then(kv.1,y)else kv) (vs.map λkv=>if kv.1=k then(kv.1,u)else kv):=by
 unfold KV at r ⊢;induction r with
 | nil=>exact .nil
 | @cons p q ps qs h t ih =>
  rw[aP,aP];refine .cons ?_ ih;obtain⟨h1,h2⟩:=h;by_cases e:p.1=k
  ·grind
  ·grind
def KV.put{kvs:List (κ×V)}{vs:List (κ×Value)}(r:KV kvs vs)(k:κ){y:V}{u:Value}(ry:RelV y u):KV (putK kvs k y) (stored vs k u):=by
 unfold putK stored;rw[r.any k];by_cases e:(vs.any λkv=>decide (kv.1=k))=true
 ·rw[if_pos e,if_pos e];exact r.YV k ry
 ·rw[if_neg e,if_neg e];exact Paired.snoc r ⟨rfl,ry⟩
theorem KV.length{kvs:List (κ×V)}{vs:List (κ×Value)}(r:KV kvs vs):kvs.length=vs.length:=nj r
end
def qz{P:Program}{w:World}{k:bP}{u:Value}(r:RelV (kV k) u):(di P w).is k u=true:=by
 cases k with
 | inl i=>obtain⟨t,e⟩:=(show ∃t,u=Value.int i t from r);subst e;exact xu P w i t
 | inr x=>obtain⟨t,e⟩:=(show ∃t,u=Value.str x t from r);subst e;exact xw P w x t
theorem tH{P:Program}{w:World}:∀{ks:List bP} {us:List Value},Vals (ks.map kV) us->ItemsAre (di P w) ks us
 | [],_,r=>by rw[dZ]at r;cases r;exact .nil
 | k::ks,_,r=>by
  rw[aP]at r;cases r with
  | cons h t=>exact .cons (qz h) (tH t)
section
variable {P:Program} {w:World} {H:Hp} {h:Heap} {a:Addr}
def MX{u:HO}(ok:lF P w H h)(e:Rd H a u):fS P w H h a u:=e.ok ok
def BS{kvs:List (bP×V)}(ok:lF P w H h)(e:Rd H a (.dK kvs)):kvs.length<=sizeLine/\(a==sysModules)=false/\∃vs,KV kvs vs/\h.DictOf (di P w) a vs :=
 show fS P w H h a (.dK kvs)from MX ok e
def Ue{kvs:List (bP×V)}(ok:lF P w H h)(e:H a=some (.dK kvs)):kvs.length<=sizeLine/\(a==sysModules)=false/\∃vs,KV kvs vs/\h.DictOf (di P w) a vs:=BS ok (.inl e)
end
section
variable {X:Cx} {ah:List (Addr×Obj)} {σ:St} {H:Hp} {s:Shared} {a b:Addr} {k:bP×List bP} {v:V} {r:Value} {A:Around} {E:Value->Shared->Prop} {xs:List ((bP×List bP)×Addr×Value)}
def Kp{k:List bP}(I:Inv X ah σ H s)(e:iG X.K H a (k.map kV)):(tupleKind (di X.prog X.w)).is s.heap k a:=by
 obtain⟨ax,r,⟨o,h1,h2,n,h3⟩,_⟩:=I.tuple e;exact⟨o,ax.toArray,n,h1,h2,h3,by simpa using tH r⟩
def key_is(I:Inv X ah σ H s)(e:EV X.K H a k):(jD (di X.prog X.w)).is s.heap k a:=by
 obtain⟨b,e1,e2⟩:=e;obtain⟨ax,r,⟨o,h1,h2,n,h3⟩,_⟩:=I.tuple e1;cases r with
 | @cons _ u _ us r1 r2 =>
  cases r2 with
  | cons r2 r3 =>
   cases r3;cases r2;exact⟨o,u,b,n,h1,h2,h3,qz r1,Kp I e2⟩
def tJ(I:Inv X ah σ H s)(e:Rd H a (.dT xs))(hk:fK X.K H xs):xs.length<=sizeLine/\(a==sysModules)=false/\s.heap.DictOfH (jD (di X.prog X.w)) a xs:=by
 obtain⟨z,y,o,es,ep,h1,h2,h3,h4,h5⟩:=(show fS X.prog X.w H s.heap a (.dT xs)from MX I.hok e)
 exact⟨z,y,o,es,ep,h1,h2,h3,h4,λx hx=>key_is I (hk x hx),h5⟩
def Ug{Q:Value->Shared->Prop}(hu:A.units+2<cLine)(I:Inv X ah σ H s)(e:Rd H a (.dT xs))(hk:fK X.K H xs)(eb:EV X.K H b k)(h:∀s',Inv X ah σ H s'->Q (.bool (atKey xs k).isSome) s') :
  wpAny (model X.prog X.w) A (compareOp .In (.ref b) (.ref a)) Q E s:=by
 obtain⟨_,hd,dd⟩:=tJ I e hk;exact wpAny_in_heap (fQ hu) (key_is I eb) hd dd (h _ (I.tok _))
def Uh{Q:Value->Shared->Prop}(hu:A.units+2<cLine)(I:Inv X ah σ H s)(e:Rd H a (.dT xs))(hk:fK X.K H xs)(eb:EV X.K H b k) (h:∀s',Inv X ah σ H s'->Q (.bool (!(atKey xs k).isSome)) s') :
  wpAny (model X.prog X.w) A (compareOp .NotIn (.ref b) (.ref a)) Q E s:=by
 obtain⟨_,hd,dd⟩:=tJ I e hk;exact wpAny_notIn_heap (fQ hu) (key_is I eb) hd dd (h _ (I.tok _))
def Ui{Q:Value->Shared->Prop}{p:Addr×Value}(hu:A.units+2<cLine)(I:Inv X ah σ H s)(e:Rd H a (.dT xs))(hk:fK X.K H xs)(eb:EV X.K H b k)(hp:atKey xs k=some p)(h:∀s',Inv X ah σ H s'->Q p.2 s') :
  wpAny (model X.prog X.w) A (getItem (.ref a) (.ref b)) Q E s:=by
 obtain⟨_,hd,dd⟩:=tJ I e hk;exact wpAny_getItem_heap (fQ hu) (key_is I eb) dd hp (h _ (I.tok _))
def qA{κ:Type} [DecidableEq κ] (xs:List (κ×Addr×Value)) (k:κ) (a:Addr) (v:Value):(storedH xs k a v).length<=xs.length+1:=by
 unfold storedH;split
 ·grind
 ·grind
def O7{Q:Unit->Shared->Prop}(hu:A.units+2<cLine)(I:Inv X ah σ H s)(e:H a=some (.dT xs))(hk:fK X.K H xs)(eb:EV X.K H b k)(hl:xs.length<sizeLine)
  (h:∀s',Inv X ah σ (cU H a (.dT (storedH xs k b r))) s'->Q () s'):wpAny (model X.prog X.w) A (setItem (.ref a) (.ref b) r) Q E s:=by
 obtain⟨_,hd,dd⟩:=tJ I (.inl e) hk;refine wpAny_setItem_heap (hsz:=pZ hl) (fQ hu) (key_is I eb) dd λh' Sw hs=>h _ ?_
 obtain⟨q,es,ep,hq,h2,h3,h4,_,h5⟩:=Sw;exact I.write (x:=a) (e:=a) (by rw[e];exact True.intro) (.inl rfl) (λc q' hc z=>(hs.2 c hc).trans z) ⟨q,hq⟩ ⟨(by have:=qA xs k b r;lia),hd,q,es,ep,hq,h2,h3,h4,h5⟩
def lW(I:Inv X ah σ H s):sysModules<s.heap.objs.size:=jx (by decide) (show mainGlobals<s.heap.objs.size from(I.mod.glob.keeps I.bk).lt)
def MY(o:HO):TE:=λ_ H Q=>∀p,H p=none->Q (.ref p) (cU H p o)
def Kq{pos:Pos}:PE X (.Dict [] [] pos) (MY (.dT [])):=λah s σ H Q I h =>
 wpAny_Dict_empty ⟨.ref s.heap.objs.size,_,I.laid (a:=s.heap.objs.size) (o:=.dT []) (t':=s.toks) (λ_ _ q=>aJ _ q) (aA _)
  ⟨iD _,fE.mpr (bU (bC (lW I))),_,#[],0,bL _ rfl,⟨rfl,rfl,rfl⟩,rfl,rfl,pV⟩,rfl,h _ (I.hok.fresh (aA _))⟩
def DN{κ:Type} [DecidableEq κ] (xs:List (κ×Addr×Value)) (k:κ):(atKey xs k).isSome=(xs.map (·.1)).any λj=>decide (j=k):=by
 unfold atKey;rw[Option.isSome_map,List.any_map,List.isSome_find?];rfl
end
def Gp(mg:Str->Option Value)(base:Heap):Prop:=∃bm o,mg "__builtins__"=some (.ref bm)/\bm≠builtinsNs/\bm≠mainGlobals/\base.get? bm=some o/\o.cls=.type "module"/\o.dict=some builtinsNs/\o.data=.plain
end L2
namespace L2.U
open PySem PySem.Spec PyProof.Rows
def nw{α:Sort u}(a:α):∃x,x=a:=⟨_,rfl⟩
noncomputable abbrev PV.lst (ps:List PV):PV:=.nd .lst ps
structure Gr (F F':Fz):Prop where
 s:cz F.F F'.F
 m:∀(n:Nat) (a:Addr),F.μ[n]?=some a->F'.μ[n]?=some a
def Gr.refl(F:Fz):Gr F F:=⟨cz.refl _,λ_ _ h=>h⟩
def Gr.trans(a:Gr F F1)(b:Gr F1 F2):Gr F F2:=⟨a.s.trans b.s,λn c h=>b.m n c (a.m n c h)⟩
def cP{K:W.Frag}(e:cz H H')(h:iG K H a xs):iG K H' a xs:=by
 rcases h with(h | ⟨o,h⟩) | h
 ·exact .inl (.inl (e _ _ h))
 ·exact .inl (.inr ⟨o,e _ _ h⟩)
 ·exact .inr h
def ez{K:W.Frag}(e:cz H H')(h:EV K H a k):EV K H' a k:=let ⟨b,h1,h2⟩:=h;⟨b,cP e h1,cP e h2⟩
def Kr(e:cz H H')(h:Rd H a u):Rd H' a u:=h.imp (e _ _) (by rintro⟨o,q⟩;exact⟨o,e _ _ q⟩)
def jG{K:W.Frag}(e:cz H H')(h:iH K H a xs):iH K H' a xs:=h.imp (Kr e) id
def _root_.L2.iH.of{K:W.Frag}(h:H a=some (.lst xs)):iH K H a xs:=.inl (.inl h)
section
variable {K:W.Frag} {F F':Fz}
def kU.to(h:kU K G H a x k vs)(g:cz G G')(e:∀o,H a=some o->H' a=some o)(hy:y=true->x=true):kU K G' H' a y k vs:=by
 have keys:∀{xs:List ((bP×List bP)×Addr×Value)},fK K G xs->fK K G' xs:=λhk z hz=>ez g (hk z hz)
 match k,h with
 | .au,⟨h1,h2⟩ =>
  refine⟨?_,?_⟩
  ·grind
  ·rcases h2 with(h2 | ⟨o,h2⟩) | h2
   ·exact .inl (.inl (e _ h2))
   ·exact .inl (.inr ⟨o,e _ h2⟩)
   ·exact .inr h2
 | .lst,h =>
  cases y with
  | true=>rw[hy rfl]at h;exact e _ h
  | false =>
   cases x with
   | true=>exact iH.of (e _ h)
   | false =>
    rcases(h)with(h | ⟨o,h⟩) | h
    ·exact .inl (.inl (e _ h))
    ·exact .inl (.inr ⟨o,e _ h⟩)
    ·exact .inr h
 | .ins C ns,⟨Ca,dx,fs,h1,h2,h3,h4,h5⟩=>exact⟨Ca,dx,fs,h1,h2,h3,e _ h4,h5⟩
 | .eS false ks,⟨kvs,h1,h2⟩=>exact⟨kvs,e _ h1,h2⟩
 | .eS true ks,⟨xs,h1,h2,h3⟩=>exact⟨xs,e _ h1,keys h2,h3⟩
mutual
theorem bj.mono(e:Gr F F'):∀{p:PV} {v:V},bj K F p v->bj K F' p v
 | .aL,_,h=>by simpa only[bj]using h
 | .bl _,_,h=>by simpa only[bj]using h
 | .int _,_,h=>by simpa only[bj]using h
 | .str _,_,h=>by simpa only[bj]using h
 | .fn _,_,h=>by simpa only[bj]using h
 | .ref n,_,h=>by
  simp only[bj]at h ⊢;obtain⟨a,h1,h2⟩:=h;exact⟨a,e.m _ _ h1,h2⟩
 | .nd k ps,_,h=>by
  simp only[bj]at h ⊢;obtain⟨a,vs,h1,h2,h3⟩:=h;exact⟨a,vs,h1,h2.to e.s (λo q=>e.s _ _ q) id,ay.mono e h3⟩
theorem ay.mono(e:Gr F F'):∀{ps:List PV} {vs:List V},ay K F ps vs->ay K F' ps vs
 | [],_,h=>by simpa only[ay]using h
 | _::_,_,h=>by
  simp only[ay]at h ⊢;obtain⟨v,r,h1,h2,h3⟩:=h;exact⟨v,r,h1,h2.mono e,ay.mono e h3⟩
end
def ay.bV(h:ay K F (p::ps) vs):∃v r,vs=v::r/\bj K F p v/\ay K F ps r:=by
 simpa only[ay]using h
def ay.cA(h:ay K F [] vs):vs=[]:=by simpa only[ay]using h
theorem qB:∀{ps:List PV} {vs:List V},ay K F ps vs↔Paired (bj K F) ps vs
 | [],vs=>⟨λh=>by rw[h.cA];exact .nil,λh=>by cases h;exact .nil⟩
 | p::ps,vs=>⟨λh=>by obtain⟨v,r,rfl,h1,h2⟩:=h.bV;exact .cons h1 (qB.mp h2),λh=>by cases h with | cons h1 h2=>exact .cons h1 (qB.mpr h2)⟩
def ay.length(h:ay K F ps vs):ps.length=vs.length:=nj (qB.mp h)
theorem ay.append:∀{ps qs:List PV} {vs ws:List V},ay K F ps vs->ay K F qs ws->ay K F (ps++qs) (vs++ws)
 | [],_,_,_,h,t=>by rw[h.cA];exact t
 | _::_,_,_,_,h,t=>by
  obtain⟨v,r,rfl,h1,h2⟩:=h.bV;exact .cons h1 (h2.append t)
theorem ay.get:∀{ps:List PV} {vs:List V} {i:Nat} {p:PV},ay K F ps vs->ps[i]?=some p->∃v,vs[i]?=some v/\bj K F p v
 | [],_,_,_,_,e=>by cases e
 | _::_,_,0,_,h,e=>by
  obtain⟨v,r,rfl,h1,_⟩:=h.bV;cases e;exact⟨v,rfl,h1⟩
 | _::_,_,_+1,_,h,e=>by
  obtain⟨v,r,rfl,_,h2⟩:=h.bV;exact h2.get e
theorem ay.take:∀{ps:List PV} {vs:List V} (n:Nat),ay K F ps vs->ay K F (ps.take n) (vs.take n)
 | _,_,0,_=>by simp only[List.take_zero];exact .nil
 | [],_,_+1,h=>by rw[h.cA];simp only[List.take_nil];exact .nil
 | _::_,_,n+1,h=>by
  obtain⟨v,r,rfl,h1,h2⟩:=h.bV;exact .cons h1 (h2.take n)
theorem ay.drop:∀{ps:List PV} {vs:List V} (n:Nat),ay K F ps vs->ay K F (ps.drop n) (vs.drop n)
 | _,_,0,h=>h
 | [],_,_+1,h=>by rw[h.cA];simp only[List.drop_nil];exact .nil
 | _::_,_,n+1,h=>by
  obtain⟨v,r,rfl,_,h2⟩:=h.bV;exact h2.drop n
theorem ay.set(r:bj K F p v):∀{ps:List PV} {vs:List V} (i:Nat),ay K F ps vs->ay K F (ps.set i p) (vs.set i v)
 | [],_,_,h=>by rw[h.cA];exact .nil
 | _::_,_,0,h=>by
  obtain⟨v,r',rfl,_,h2⟩:=h.bV;exact .cons r h2
 | _::_,_,i+1,h=>by
  obtain⟨v,r',rfl,h1,h2⟩:=h.bV;exact .cons h1 (h2.set r i)
def dk:bj K F (.ref n) v↔∃a,F.μ[n]?=some a/\v=.ref a:=by simp only[bj]
def qC:bj K F (.fn x) v↔∃a,v=.ref a/\W.nsIn K mainGlobals x=some (some (.ref a)):=by simp only[bj]
def dw:bj K F (.lst ps) v↔∃a vs,v=.ref a/\iH K F.F a vs/\ay K F ps vs:=iI
end
structure aj where
 k:Kd
 ps:List PV
structure b8 where
 ρ:List (Option PV)
 h:List aj
noncomputable def live(c:aj):Bool:=match c.k with | .au=>false | _=>true
structure lG (K:W.Frag) (af:Hp) (ag F:Fz) (h:List aj) (H:Hp):Prop where
 sub:cz F.F H
 keep:cz af H
 base:Gr ag F
 fresh:∀a o,F.F a=some o->ag.F a=some o\/af a=none
 new:∀(n:Nat) (a:Addr),F.μ[n]?=some a->af a=none/\∃o,H a=some o
 hl:h.length=F.μ.length
 nd:F.μ.Nodup
 cell:∀(n:Nat) (c:aj) (a:Addr),h[n]?=some c->F.μ[n]?=some a->live c=true->F.F a=none/\∃vs,kU K F.F H a true c.k vs/\ay K F c.ps vs
structure Lc (K:W.Frag) (F:Fz) (ρ:List (Option PV)) (σ:St):Prop where
 av:∀(i:Nat) (p:PV),ρ[i]?=some (some p)->∃v,σ[i]?=some (some v)/\bj K F p v
 len:ρ.length=σ.length
structure Rep (K:W.Frag) (af:Hp) (ag F:Fz) (st:b8) (σ:St) (H:Hp):Prop where
 c:lG K af ag F st.h H
 l:Lc K F st.ρ σ
def fT(h:H p=none):cz H (cU H p o):=λb u q=>by rw[aN (dj q h)];exact q
section
variable {K:W.Frag} {af H H':Hp} {ag F F':Fz} {h:List aj} {st:b8} {σ:St}
def Lc.mono(L:Lc K F ρ σ)(e:Gr F F'):Lc K F' ρ σ:=⟨λi p z=>let ⟨v,h1,h2⟩:=L.av i p z;⟨v,h1,h2.mono e⟩,L.len⟩
def lG.after(R:lG K af ag F h H)(e:cz H H')(f:cz F.F F'.F)(m:F'.μ=F.μ)(s:cz F'.F H')(n:∀a o,F'.F a=some o->F.F a=some o\/H a=none):lG K af ag F' h H' where
 sub:=s
 keep:=R.keep.trans e
 base:=R.base.trans ⟨f,λ_ _ q=>by rw[m];exact q⟩
 fresh:=λa o q=>by
  rcases n a o q with z | z
  ·exact R.fresh a o z
  ·exact .inr (R.keep.free z)
 new:=λn a q=>by rw[m]at q;obtain⟨h1,o,h2⟩:=R.new n a q;exact⟨h1,o,e _ _ h2⟩
 hl:=by rw[m];exact R.hl
 nd:=by rw[m];exact R.nd
 cell:=λi c a hc ha hk=>by
  rw[m]at ha;obtain⟨h1,vs,h2,h3⟩:=R.cell i c a hc ha hk;refine⟨?_,vs,h2.to f (λo q=>e _ _ q) id,h3.mono ⟨f,λ_ _ q=>by rw[m];exact q⟩⟩
  obtain⟨_,o,ho⟩:=R.new i a ha;cases q:F'.F a with
  | none=>rfl
  | some u =>
   rcases n a u q with z | z
   ·rw[h1]at z;cases z
   ·rw[ho]at z;cases z
def Rep.after(R:Rep K af ag F st σ H)(e:cz H H')(f:cz F.F F'.F)(m:F'.μ=F.μ)(s:cz F'.F H')(n:∀a o,F'.F a=some o->F.F a=some o\/H a=none):Rep K af ag F' st σ H' :=
 ⟨R.c.after e f m s n,R.l.mono ⟨f,λ_ _ q=>by grind⟩⟩
def Rep.sub(R:Rep K af ag F st σ H):cz F.F H:=R.c.sub
def Rep.laid(R:Rep K af ag F st σ H)(o:HO)(hp:H p=none):Rep K af ag ⟨cU F.F p o,F.μ⟩ st σ (cU H p o)/\Gr F ⟨cU F.F p o,F.μ⟩:=by
 have fp:=R.sub.free hp;refine⟨R.after (fT hp) (fT fp) rfl (λb u q=>?_) (λb u q=>?_),fT fp,λ_ _ q=>q⟩
 ·by_cases hb:b=p
  ·subst hb;rw[show(Fz.mk (cU F.F b o) F.μ).F b=cU F.F b o b from rfl,aB]at q;rw[aB];exact q
  ·rw[show(Fz.mk (cU F.F p o) F.μ).F b=cU F.F p o b from rfl,aN hb]at q;rw[aN hb];exact R.sub _ _ q
 ·by_cases hb:b=p
  ·grind
  ·rw[show(Fz.mk (cU F.F p o) F.μ).F b=cU F.F p o b from rfl,aN hb]at q;exact .inl q
def lG.alloc(R:lG K af ag F h H)(hp:H p=none)(hn:kU K F.F (cU H p o) p true c.k vs)(hb:ay K F c.ps vs) :
  lG K af ag ⟨F.F,F.μ++[p]⟩ (h++[c]) (cU H p o)/\Gr F ⟨F.F,F.μ++[p]⟩/\(F.μ++[p])[h.length]?=some p:=by
 have g:Gr F ⟨F.F,F.μ++[p]⟩:=⟨cz.refl _,λn a q=>by
  grind⟩
 have Xp:∀n a,(F.μ++[p])[n]?=some a->F.μ[n]?=some a\/n=F.μ.length/\a=p:=λn a q=>by
  grind
 have no:∀n a,F.μ[n]?=some a->a≠p:=λn a q z=>by
  subst z;obtain⟨_,o,ho⟩:=R.new n a q;rw[hp]at ho;cases ho
 refine⟨⟨λb u q=>by rw[aN (dj (R.sub _ _ q) hp)];exact R.sub _ _ q,R.keep.trans (fT hp),R.base.trans g,R.fresh,λn a q=>?_,by simp[R.hl],?_,λn d a hd ha hk=>?_⟩,g,by rw[R.hl];simp⟩
 ·rcases Xp n a q with z | ⟨_,rfl⟩
  ·obtain⟨h1,u,h2⟩:=R.new n a z;exact⟨h1,u,fT hp _ _ h2⟩
  ·exact⟨R.keep.free hp,o,aB⟩
 ·rw[zI];refine⟨R.nd,by simp,λa ha b hb z=>?_⟩
  obtain⟨n,hn⟩:=uL.mp ha;rw[bh]at hb;exact no n a hn (z.trans hb)
 ·rcases Xp n a ha with z | ⟨rfl,rfl⟩
  ·rw[fB (by rw[R.hl];exact(dF.mp z).1)]at hd
   obtain⟨h1,ws,h2,h3⟩:=R.cell n d a hd z hk;exact⟨h1,ws,h2.to (cz.refl _) (λu q=>fT hp _ _ q) id,h3.mono g⟩
  ·rw[<-R.hl,jl (aA _),Nat.sub_self]at hd;cases hd;exact⟨R.sub.free hp,vs,hn,hb.mono g⟩
def lG.write(R:lG K af ag F h H)(hc:h[n]?=some c)(hl:live c=true)(ha:F.μ[n]?=some a)(hn:kU K F.F (cU H a o) a true d.k vs)(hb:ay K F d.ps vs) :
  lG K af ag F (h.set n d) (cU H a o):=by
 obtain⟨hF,_⟩:=R.cell n c a hc ha hl;refine⟨λb u q=>by rw[aN (λz=>by grind)];exact R.sub _ _ q,λb u q=>?_,R.base,R.fresh,λm b q=>?_,by rw[gD];exact R.hl,R.nd,λm e b he j4 hk=>?_⟩
 ·rw[aN (λz=>by subst z;rw[(R.new n b ha).1]at q;cases q)];exact R.keep _ _ q
 ·obtain⟨h1,u,h2⟩:=R.new m b q;refine⟨h1,?_⟩;by_cases hb:b=a
  ·subst hb;exact⟨o,aB⟩
  ·exact⟨u,by rw[aN hb];exact h2⟩
 ·by_cases hm:n=m
  ·grind
  ·rw[bY hm]at he;obtain⟨h1,ws,h2,h3⟩:=R.cell m e b he j4 hk;have ne:b≠a:=λz=>by
    subst z;obtain⟨l1,e1⟩:=dF.mp j4;obtain⟨l2,e2⟩:=dF.mp ha;exact hm ((List.getElem_inj R.nd).mp (e2.trans e1.symm))
   exact⟨h1,ws,h2.to (cz.refl _) (λu q=>by rw[aN ne];exact q) id,h3⟩
end
def _root_.L2.PE.imp(h:PE X e t)(hi:∀σ H Q,t' σ H Q->t σ H Q):PE X e t':=λah s σ H Q I hw=>h ah s σ H Q I (hi _ _ _ hw)
def _root_.L2.PT.imp(h:PT X e t)(hi:∀σ H Q,t' σ H Q->t σ H Q):PT X e t':=λah s σ H Q I hw=>h ah s σ H Q I (hi _ _ _ hw)
def _root_.L2.PW.imp(h:PW X e t)(hi:∀σ H Q,t' σ H Q->t σ H Q):PW X e t':=λw ah s σ H Q I hw=>h w ah s σ H Q I (hi _ _ _ hw)
def _root_.L2.PA.imp(h:PA X e t)(hi:∀σ H Q,t' σ H Q->t σ H Q):PA X e t':=λpos ah s σ H Q I hw=>h pos ah s σ H Q I (hi _ _ _ hw)
def _root_.L2.PS.imp{st:Stmt}(h:PS X st t)(hi:∀D σ H,t' D σ H->t D σ H):PS X st t':=λah s σ H D I hw=>h ah s σ H D I (hi _ _ _ hw)
def _root_.L2.PSs.imp{st:List Stmt}(h:PSs X st t)(hi:∀D σ H,t' D σ H->t D σ H):PSs X st t':=λah s σ H D I hw=>h ah s σ H D I (hi _ _ _ hw)
def _root_.L2.PG.imp(h:PG X e t)(hi:∀v σ H Q,t' v σ H Q->t v σ H Q):PG X e t':=λah s σ H v u Q I r hw=>h ah s σ H v u Q I r (hi _ _ _ _ hw)
def _root_.L2.PGs.imp(h:PGs X e t)(hi:∀v σ H Q,t' v σ H Q->t v σ H Q):PGs X e t':=λah s σ H v u Q I r hw=>h ah s σ H v u Q I r (hi _ _ _ _ hw)
def _root_.L2.PI.imp(h:PI X tg e t)(hi:∀σ H Q,t' σ H Q->t σ H Q):PI X tg e t':=λah s σ H R I hw=>h ah s σ H R I (hi _ _ _ hw)
inductive Rs (α:Type) where
 | ok (a:α) | ex (m:Bool) (C:Str)
abbrev Gx(α:Type):=b8->Option (Rs α×b8)
noncomputable def O8{α β:Type}(k:α->Gx β):Rs α×b8->Option (Rs β×b8)
 | (.ok a,st)=>k a st
 | (.ex m C,st)=>some (.ex m C,st)
def bnd{α β:Type}(f:Gx α)(k:α->Gx β):Gx β:=λst=>(f st).bind (O8 k)
noncomputable def cD{α:Type}(a:α):Gx α:=λst=>some (.ok a,st)
noncomputable def hp{α:Type}(g:List aj->Option α):Gx α:=λst=>(g st.h).map λa=>(.ok a,st)
noncomputable def jd{α:Type}(o:Option α):Gx α:=λst=>o.map λa=>(.ok a,st)
def Dm(H H':Hp):Prop:=∀b o,H b=some o->∃o',H' b=some o'
def ik(P:Program)(w:World):Dq:=λaC H s E e s'=>∃a cls a0 B H',e=.ref a/\s'.os=s.os/\AllBare s'.gens/\Un (lL aC) [] H H' s.heap s'.heap/\lF P w H' s'.heap/\Dm H H'/\E cls none H' /\
 Heap.FlyingW B aC a cls a0 s'.heap/\(∀b o,H' b=some o->∃ob,B.get? b=some ob)/\∀b ob,s.heap.get? b=some ob->H b=none->b∉lL aC->B.get? b=some ob
def tK:vB (ik P w) X E0:=(by rintro _ _ _ _ _ _ _ ⟨_,_,_,_,_,_,_,_,_,_,_,h,_⟩;exact h.elim)
def Gq(X:Cx)(af:Hp)(ag F:Fz)(C:Str)(st:b8):Bool->Prop
 | true=>∀F' bF H' ah s h1 a cls vs,Rep X.K af ag F' st bF H'->Gr F F'->Inv X ah bF H' s->ClsAt X.K C cls->Heap.MadeExcOf s.heap h1 a cls vs->X.xe (.ref a) {s with heap:=h1}
 | false=>∀bF ah H1 s1 e s',Inv X ah bF H1 s1->ik X.prog X.w X.stack H1 s1 (λcls _ H2=>ClsAt X.K C cls/\∃F',Rep X.K af ag F' st bF H2/\Gr F F') e s'->X.xe e s'
section
variable {X:Cx} {af H:Hp} {ag F F1:Fz} {st st1:b8} {σ:St} {α β γ δ:Type}
def Gq.mono(h:Gq X af ag F C st m)(s:Gr F F1):Gq X af ag F1 C st m:=by
 cases m with
 | true=>exact λF' bF H' ah s1 h1 a cls vs R z=>h F' bF H' ah s1 h1 a cls vs R (s.trans z)
 | false =>
  rintro bF ah H1 s1 e s' I ⟨a,cls,a0,B,H',h1,h2,h3,h4,h5,h6,⟨c,F',R,z⟩,h8⟩
  exact h bF ah H1 s1 e s' I ⟨a,cls,a0,B,H',h1,h2,h3,h4,h5,h6,⟨c,F',R,s.trans z⟩,h8⟩
def Gu(X:Cx)(af:Hp)(ag F:Fz)(P:α->b8->Prop):Rs α×b8->Prop
 | (.ok a,st)=>P a st
 | (.ex m C,st)=>Gq X af ag F C st m
def At(X:Cx)(af:Hp)(ag F:Fz)(st:b8)(f:Gx α)(P:α->b8->Prop):Prop:=∃r,f st=some r/\Gu X af ag F P r
def Gu.imp(h:Gu X af ag F P r)(g:Gr F F1)(i:∀a st',P a st'->P' a st'):Gu X af ag F1 P' r:=by
 match r,h with
 | (.ok a,st),h=>exact i a st h
 | (.ex m C,st),h=>exact Gq.mono h g
def At.imp(h:At X af ag F st f P)(g:Gr F F1)(i:∀a st',P a st'->P' a st'):At X af ag F1 st f P' :=
 let ⟨r,h1,h2⟩:=h;⟨r,h1,h2.imp g i⟩
def aO(h:o.bind f=some b):∃a,o=some a/\f a=some b:=by
 cases o with
 | none=>cases h
 | some a=>exact⟨a,rfl,h⟩
def aQ(h:o.map f=some b):∃a,o=some a/\f a=b:=by
 simp_all
def At.bnd(h:At X af ag F st (bnd f k) P):At X af ag F st f (λa st1=>At X af ag F st1 (k a) P):=by
 obtain⟨r,h1,h2⟩:=h;obtain⟨q,e1,e2⟩:=aO h1;refine⟨q,e1,?_⟩
 match q,e2 with
 | (.ok a,s1),e2=>exact⟨r,e2,h2⟩
 | (.ex m C,s1),e2=>cases e2;exact h2
def At.cD(h:At X af ag F st (cD a) P):P a st:=by
 obtain⟨r,h1,h2⟩:=h;cases h1;exact h2
def At.hp(h:At X af ag F st (hp g) P):∃a,g st.h=some a/\P a st:=by
 obtain⟨r,h1,h2⟩:=h;obtain⟨a,e1,e2⟩:=aQ h1;subst e2;exact⟨a,e1,h2⟩
def At.jd(h:At X af ag F st (jd g) P):∃a,g=some a/\P a st:=by
 obtain⟨r,h1,h2⟩:=h;obtain⟨a,e1,e2⟩:=aQ h1;subst e2;exact⟨a,e1,h2⟩
def Tx(X:Cx)(af:Hp)(ag:Fz)(rl:Fz->α->β->Prop)(F:Fz)(st:b8)(f:Gx α)(σ:St)(Q:β->Hp->Prop):Prop :=
 At X af ag F st f λa st'=>∀b H' F',Rep X.K af ag F' st' σ H'->Gr F F'->rl F' a b->Q b H'
def tX(X:Cx)(af:Hp)(ag:Fz)(rl:Fz->α->β->Prop)(f:Gx α):St->Hp->(β->Hp->Prop)->Prop:=λσ H Q=>∃F st,Rep X.K af ag F st σ H/\Tx X af ag rl F st f σ Q
def Tx.mono(h:Tx X af ag rl F st f σ Q)(g:Gr F F1)(i:∀b H',Q b H'->Q' b H'):Tx X af ag rl F1 st f σ Q' :=
 At.imp h g λa st' q b H' F' R s r=>i _ _ (q b H' F' R (g.trans s) r)
def Tx.bnd(h:Tx X af ag rl' F st (bnd f k) σ Q)
  (i:∀a b F1 st1 H1,Rep X.K af ag F1 st1 σ H1->Gr F F1->rl F1 a b->Tx X af ag rl' F1 st1 (k a) σ Q->Q' b H1):Tx X af ag rl F st f σ Q' :=
 At.imp (At.bnd h) (Gr.refl F) λa st1 q b H1 F1 R1 g1 r1=>i a b F1 st1 H1 R1 g1 r1 (Tx.mono (q) g1 λ_ _ z=>z)
def Tx.cD(h:Tx X af ag rl F st (cD a) σ Q):∀b H' F',Rep X.K af ag F' st σ H'->Gr F F'->rl F' a b->Q b H':=At.cD h
def Tx.hp(h:Tx X af ag rl F st (hp g) σ Q):∃a,g st.h=some a/\∀b H' F',Rep X.K af ag F' st σ H'->Gr F F'->rl F' a b->Q b H':=At.hp h
def Tx.jd(h:Tx X af ag rl F st (jd g) σ Q):∃a,g=some a/\∀b H' F',Rep X.K af ag F' st σ H'->Gr F F'->rl F' a b->Q b H':=At.jd h
end
abbrev rB:Fz->Bool->Bool->Prop:=λ_ a b=>a=b
abbrev tE(X:Cx)(af:Hp)(ag:Fz)(f:Gx PV):TE:=tX X af ag (bj X.K) f
abbrev tT(X:Cx)(af:Hp)(ag:Fz)(f:Gx Bool):TT:=tX X af ag rB f
abbrev tA(X:Cx)(af:Hp)(ag:Fz)(f:Gx (List PV)):TA:=tX X af ag (ay X.K) f
section
variable {X:Cx} {af:Hp} {ag:Fz} {a b c e:Expr} {es rest:List Expr} {fa fb fc:Gx PV} {ga gb:Gx Bool} {ts:Gx (List PV)} {pos:Pos}
noncomputable def rd(i:Nat):Gx PV:=λst=>(st.ρ[i]?).join.map λp=>(.ok p,st)
def Uj(i:Nat)(h:PE X (.Name x pos) (JQ i)):PE X (.Name x pos) (tE X af ag (rd i)):=h.imp <| by
 rintro σ H Q ⟨F,st,R,r,h1,h2⟩
 obtain⟨p,e1,e2⟩:=aQ h1;subst e2;cases z:st.ρ[i]? with
 | none=>rw[z]at e1;cases e1
 | some o =>
  rw[z]at e1;cases o with
  | none=>cases e1
  | some p' =>
   cases e1;obtain⟨v,h3,h4⟩:=R.l.av i p z;exact⟨v,h3,h2 v H F R (Gr.refl F) h4⟩
def xN(h:PE X e (tC v))(hb:∀F,bj X.K F p v):PE X e (tE X af ag (cD p)):=h.imp (by rintro σ H Q ⟨F,st,R,q⟩;exact q.cD v H F R (Gr.refl F) (hb F))
def Uk{j pos}:PE X (.Constant (.int i) j pos) (tE X af ag (cD (.int i))):=xN Oj λ_=>aE.mpr rfl
def YW{j pos}:PE X (.Constant (.bool i) j pos) (tE X af ag (cD (.bl i))):=xN Tp λ_=>bz.mpr rfl
def Ul{j pos}:PE X (.Constant .none j pos) (tE X af ag (cD .aL)):=xN Ol λ_=>cW.mpr rfl
def Um{j pos}:PE X (.Constant (.str i) j pos) (tE X af ag (cD (.str i))):=xN Om λ_=>bN.mpr rfl
abbrev G2:=List aj->PV->PV->Option PV
def rT(K:W.Frag)(g:G2):R2:=λx y H Q=>∃af ag F st τ pa pb p,g st.h pa pb=some p/\Rep K af ag F st τ H/\bj K F pa x/\bj K F pb y/\∀v H' F',Rep K af ag F' st τ H'->Gr F F'->bj K F' p v->Q v H'
abbrev oY(X:Cx)(f:Value->Value->Sem Value)(g:G2):Prop:=OpR X f (rT X.K g)
def op2(g:G2)(fa fb:Gx PV):Gx PV:=bnd fa λx=>bnd fb λy=>hp λh=>g h x y
def oZ(h:tE X af ag (op2 g fa fb) σ H Q):TK (rT X.K g) (tE X af ag fa) (tE X af ag fb) σ H Q:=by
 obtain⟨F,st,R,h⟩:=h;refine⟨F,st,R,h.bnd λp v F1 st1 H1 R1 g1 b1 h1=>⟨F1,st1,R1,h1.bnd λq w F2 dE H2 R2 g2 b2 h2=>?_⟩⟩
 obtain⟨o,e,z⟩:=h2.hp;exact⟨af,ag,F2,dE,σ,p,q,o,e,R2,b1.mono g2,b2,z⟩
def YX(ho:oY X (binaryOp op) g)(ha:PE X a (tE X af ag fa))(hb:PE X b (tE X af ag fb)):PE X (.BinOp a op b pos) (tE X af ag (op2 g fa fb)):=(MS ho ha hb).imp λ_ _ _ h=>oZ h
def Uo(ho:oY X (compareOp op) g)(ha:PE X a (tE X af ag fa))(hb:PE X b (tE X af ag fb))(hm:behindInMarks op b=false):PE X (.Compare a [op] [b] pos) (tE X af ag (op2 g fa fb)):=(J6 ho ha hb hm).imp λ_ _ _ h=>oZ h
noncomputable def Gv:PV->Option Bool | .bl b=>some b | _=>none
def qD{b:Bool}(h:Gv p=some b):p=.bl b:=by
 cases p<;>first | (cases h;rfl) | cases h
def toB(f:Gx PV):Gx Bool:=bnd f λp=>jd (Gv p)
def toB_imp(h:tT X af ag (toB fa) σ H Q):tE X af ag fa σ H λv H1=>∃k,v=.bl k/\Q k H1:=by
 obtain⟨F,st,R,h⟩:=h;refine⟨F,st,R,h.bnd λp v F1 st1 H1 R1 g1 b1 h1=>?_⟩
 obtain⟨k,e,z⟩:=h1.jd;rw[qD e]at b1;exact⟨k,bz.mp b1,z k H1 F1 R1 (Gr.refl _) rfl⟩
def Up(ho:oY X (compareOp op) g)(ha:PE X a (tE X af ag fa))(hb:PE X b (tE X af ag fb))(hm:behindInMarks op b=false):PT X (.Compare a [op] [b] pos) (tT X af ag (toB (op2 g fa fb))) :=
 (J7 ho ha hb hm).imp λ_ _ _ h=>oZ (toB_imp h)
def chain(g g':G2)(fa fb fc:Gx PV):Gx PV:=bnd fa λx=>bnd fb λy=>bnd (hp λh=>(g h x y).bind Gv) λk=>if k=true then bnd fc λz=>hp λh=>g' h y z else cD (.bl false)
def tM(h:tE X af ag (chain g g' fa fb fc) σ H Q):Ao (rT X.K g) (rT X.K g') (tE X af ag fa) (tE X af ag fb) (tE X af ag fc) σ H Q:=by
 obtain⟨F,st,R,h⟩:=h;refine⟨F,st,R,h.bnd λp v F1 st1 H1 R1 g1 b1 h1=>⟨F1,st1,R1,h1.bnd λq w F2 dE H2 R2 g2 b2 h2=>?_⟩⟩
 obtain⟨k,e,z⟩:=At.hp (At.bnd h2);obtain⟨o,e1,e2⟩:=aO e;rw[qD e2]at e1;refine⟨af,ag,F2,dE,σ,p,q,_,e1,R2,b1.mono g2,b2,λu H3 F3 R3 g3 b3=>⟨k,bz.mp b3,?_⟩⟩
 cases k with
 | true =>
  have z:Tx X af ag (bj X.K) F2 dE (bnd fc λz=>hp λh=>g' h q z) σ Q:=z
  refine⟨F3,dE,R3,(z.mono g3 λ_ _ y=>y).bnd λt o F4 EZ H4 R4 g4 b4 h4=>?_⟩
  obtain⟨o,e,z⟩:=h4.hp;exact⟨af,ag,F4,EZ,σ,q,t,o,e,R4,b2.mono (g3.trans g4),b4,z⟩
 | false=>exact Tx.cD z _ H3 F3 R3 g3 (bz.mpr rfl)
def Ks(ho:oY X (compareOp op) g)(mP:oY X (compareOp xa) g')(ha:PE X a (tE X af ag fa))(hb:PE X b (tE X af ag fb))(hc:PE X c (tE X af ag fc))
  (hm:lastMarks [op,xa] [b,c]=false):PE X (.Compare a [op,xa] [b,c] pos) (tE X af ag (chain g g' fa fb fc)):=(F7 ho mP ha hb hc hm).imp λ_ _ _ h=>tM h
end
def cQ(h:List aj):PV->Option (Kd×List PV)
 | .nd k ps=>some (k,ps)
 | .ref n=>(h[n]?).bind λc=>if live c=true then some (c.k,c.ps)else none
 | _=>none
def bS{α:Type}{c:Prop} [Decidable c] {x:Option α} {y:α} (h:(if c then x else none)=some y):c/\x=some y:=by
 grind
def aD{α:Type}{c:Prop} [Decidable c] {x y:α} (h:(if c then some x else none)=some y):c/\x=y:=by
 grind
section
variable {K:W.Frag} {af H:Hp} {ag F:Fz} {st:b8} {σ:St}
def Rep.at(R:Rep K af ag F st σ H){p:PV}{k:Kd}{ps:List PV}{v:V}(e:cQ st.h p=some (k,ps))(b:bj K F p v):∃a vs,v=.ref a/\kU K F.F H a false k vs/\ay K F ps vs:=by
 cases p with
 | nd k' vG =>
  cases e;obtain⟨a,vs,h1,h2,h3⟩:=iI.mp b;exact⟨a,vs,h1,h2.to (cz.refl _) (λo q=>R.sub _ _ q) id,h3⟩
 | ref n =>
  obtain⟨c,e1,e2⟩:=aO e;obtain⟨hl,e3⟩:=aD e2;cases e3;obtain⟨a,h1,h2⟩:=dk.mp b;obtain⟨_,vs,h3,h4⟩:=R.c.cell n c a e1 h1 hl;exact⟨a,vs,h2,h3.to (cz.refl _) (λo q=>q) (λz=>by cases z),h4⟩
 | _=>cases e
def Gw(h:List aj)(p:PV):Option (List PV):=match cQ h p with
 | some (.au,ps)=>some ps
 | some (.lst,ps)=>some ps
 | _=>none
def Rep.seq(R:Rep K af ag F st σ H){p:PV}{ps:List PV}{v:V}(e:Gw st.h p=some ps)(b:bj K F p v):∃a vs,v=.ref a/\(iG K H a vs\/iH K H a vs)/\ay K F ps vs:=by
 unfold Gw at e;split at e
 ·rename_i z;cases e;obtain⟨a,vs,h1,h2,h3⟩:=R.at z b;exact⟨a,vs,h1,.inl h2.2,h3⟩
 ·rename_i z;cases e;obtain⟨a,vs,h1,h2,h3⟩:=R.at z b;exact⟨a,vs,h1,.inr h2,h3⟩
 ·cases e
def ou(h:List aj):PV->Option Bool
 | .aL=>some false
 | .bl b=>some b
 | .int i=>some (i != 0)
 | p=>match cQ h p with
  | some (.au,ps)=>some !ps.isEmpty
  | some (.lst,ps)=>some !ps.isEmpty
  | some (.eS false _,ps)=>some !ps.isEmpty
  | _=>none
def qE{ps:List PV}{vs:List V}(h:ay K F ps vs):ps.isEmpty=vs.isEmpty:=by
 cases ps with
 | nil=>rw[h.cA];rfl
 | cons p ps=>obtain⟨v,r,rfl,_,_⟩:=h.bV;rfl
def Rep.tru(R:Rep K af ag F st σ H){p:PV}{k:Bool}{v:V}(e:ou st.h p=some k)(b:bj K F p v):J8 K v H k:=by
 have more:(match cQ st.h p with
  | some (.au,ps)=>some !ps.isEmpty
  | some (.lst,ps)=>some !ps.isEmpty
  | some (.eS false _,ps)=>some !ps.isEmpty
  | _=>none)=some k->J8 K v H k:=λe=>by
  split at e
  ·rename_i z;cases e;obtain⟨a,vs,rfl,h2,h3⟩:=R.at z b;exact .inr (.inl ⟨vs,h2.2,by rw[qE h3]⟩)
  ·rename_i z;cases e;obtain⟨a,vs,rfl,h2,h3⟩:=R.at z b;exact .inl ⟨vs,iH.sq h2,by rw[qE h3]⟩
  ·rename_i z;cases e;obtain⟨a,vs,rfl,⟨kvs,h2,_,h4⟩,h3⟩:=R.at z b;refine .inr (.inr ⟨kvs,h2,?_⟩);rw[qE h3,<-h4,List.isEmpty_map]
  ·cases e
 cases p with
 | aL=>rw[cW.mp b];exact(aZ e).symm
 | bl c=>rw[bz.mp b];exact(aZ e).symm
 | int i=>rw[aE.mp b];exact(aZ e).symm
 | str x=>exact more e
 | ref n=>exact more e
 | fn x=>exact more e
 | nd k ps=>exact more e
end
section
variable {X:Cx} {af:Hp} {ag:Fz} {a b c e:Expr} {es rest:List Expr} {fa fb fc:Gx PV} {ga gb:Gx Bool} {ts:Gx (List PV)} {pos:Pos}
def vH(f:Gx PV):Gx Bool:=bnd f λp=>hp λh=>ou h p
def Uq(h:PE X e (tE X af ag fa))(he:∀i6,isTrue e X.env i6=(do let v <-i6;standAt e.pos;holding [v] (truthy v))):PT X e (tT X af ag (vH fa)) :=
 (Ga h he).imp λσ H Q ⟨F,st,R,h⟩=>⟨F,st,R,h.bnd λp v F1 st1 H1 R1 g1 b1 h1=>by
  obtain⟨k,e,z⟩:=h1.hp;exact⟨k,R1.tru e b1,z k H1 F1 R1 (Gr.refl _) rfl⟩⟩
def Kt{op xa:CmpOp}{g g':G2}(ho:oY X (compareOp op) g)(mP:oY X (compareOp xa) g')(ha:PE X a (tE X af ag fa))(hb:PE X b (tE X af ag fb))(hc:PE X c (tE X af ag fc))
  (hm:lastMarks [op,xa] [b,c]=false):PT X (.Compare a [op,xa] [b,c] pos) (tT X af ag (toB (chain g g' fa fb fc))):=(F8 ho mP ha hb hc hm).imp λ_ _ _ h=>tM (toB_imp h)
def ow{α:Type}(gc:Gx Bool)(f g:Gx α):Gx α:=bnd gc λx=>if x=true then f else g
def vI{α β:Type}{rl:Fz->α->β->Prop}{f g:Gx α}{σ:St}{H:Hp}{Q:β->Hp->Prop}(h:tX X af ag rl (ow ga f g) σ H Q):tT X af ag ga σ H λc H1=>if c=true then tX X af ag rl f σ H1 Q else tX X af ag rl g σ H1 Q:=by
 obtain⟨F,st,R,h⟩:=h;refine⟨F,st,R,h.bnd λx y F1 st1 H1 R1 g1 b1 h1=>?_⟩
 cases b1;cases x with
 | true=>exact⟨F1,st1,R1,h1⟩
 | false=>exact⟨F1,st1,R1,h1⟩
def vJ{α β:Type}{rl:Fz->α->β->Prop}{a:α}{b:β}{σ:St}{H:Hp}{Q:β->Hp->Prop}(h:tX X af ag rl (cD a) σ H Q)(hb:∀F,rl F a b):Q b H:=by
 obtain⟨F,st,R,h⟩:=h;exact h.cD b H F R (Gr.refl _) (hb F)
def xO{P P' Q Q':Prop}{c:Bool}(h:if c=true then P else Q)(h1:P->P')(h2:Q->Q'):if c=true then P' else Q':=by
 grind
def BU{α β:Type}{rl:Fz->α->β->Prop}{f:Gx α}{σ:St}{H:Hp}{Q Q':β->Hp->Prop}(h:tX X af ag rl f σ H Q)(i:∀b H',Q b H'->Q' b H'):tX X af ag rl f σ H Q':=let ⟨F,st,R,h⟩:=h;⟨F,st,R,h.mono (Gr.refl _) i⟩
def Ur(ha:PT X a (tT X af ag ga))(hb:PW X (.BoolOp .And (b::rest) pos) (tT X af ag gb)):PW X (.BoolOp .And (a::b::rest) pos) (tT X af ag (ow ga gb (cD false))) :=
 (Oq ha hb).imp λσ H Q h=>BU (vI h) λ_ _ z=>xO z id λz=>vJ z λ_=>rfl
def YY(ha:PT X a (tT X af ag ga))(hb:PW X (.BoolOp .Or (b::rest) pos) (tT X af ag gb)):PW X (.BoolOp .Or (a::b::rest) pos) (tT X af ag (ow ga (cD true) gb)) :=
 (Tq ha hb).imp λσ H Q h=>BU (vI h) λ_ _ z=>xO z (λz=>vJ z λ_=>rfl) id
def Ku(f:Gx Bool):Gx Bool:=bnd f λx=>cD !x
def Us(ha:PT X a (tT X af ag ga)):PT X (.UnaryOp .Not a pos) (tT X af ag (Ku ga)):=(Ot ha).imp λσ H Q ⟨F,st,R,h⟩=>⟨F,st,R,h.bnd λx y F1 st1 H1 R1 g1 b1 h1=>by
 cases b1;exact h1.cD _ H1 F1 R1 (Gr.refl _) rfl⟩
def O9(fa fb:Gx PV):Gx PV:=bnd fa λx=>bnd (hp λh=>ou h x) λk=>if k=true then fb else cD x
def Xq(fa fb:Gx PV):Gx PV:=bnd fa λx=>bnd (hp λh=>ou h x) λk=>if k=true then cD x else fb
def Gy{f g:PV->Gx PV}{ah:List (Addr×Obj)}{s:Shared}{σ:St}{H:Hp}{Q:VK}(ha:PE X a (tE X af ag fa))(I:Inv X ah σ H s)
  (h:tE X af ag (bnd fa λx=>bnd (hp λh=>ou h x) λk=>if k=true then f x else g x) σ H Q) :
  wpAny (model X.prog X.w) X.A (eval a X.env) (λv s1=>wpAny (model X.prog X.w) X.A (truthy v) (λk s2=>∃p xv F1 st1 H1,Inv X ah σ H1 s2/\RelV xv v/\Rep X.K af ag F1 st1 σ H1/\bj X.K F1 p xv/\Tx X af ag (bj X.K) F1 st1 (if k=true then f p else g p) σ Q) X.xe s1) X.xe s:=by
 obtain⟨F,st,R,h⟩:=h;refine thn (ha ah s σ H (λv H1=>∃F1 st1 p,Rep X.K af ag F1 st1 σ H1/\bj X.K F1 p v/\Tx X af ag (bj X.K) F1 st1 (bnd (hp λh=>ou h p) λk=>if k=true then f p else g p) σ Q) I
  ⟨F,st,R,h.bnd λp v F1 st1 H1 R1 g1 b1 h1=>⟨F1,st1,p,R1,b1,h1⟩⟩) λv s1 ⟨xv,H1,I1,r1,F1,st1,p,R1,b1,h1⟩=>?_
 obtain⟨k,e,z⟩:=At.hp (At.bnd h1);exact thn (F9 ah s1 σ H1 xv v (λk' H'=>k'=k/\H'=H1) I1 r1 ⟨k,R1.tru e b1,rfl,rfl⟩) <| by
  rintro c s2 ⟨H2,I2,ec,eh⟩
  subst ec eh;exact⟨p,xv,F1,st1,H2,I2,r1,R1,b1,z⟩
def YZ(ha:PE X a (tE X af ag fa))(hb:PE X (.BoolOp .Or (b::rest) pos) (tE X af ag fb)):PE X (.BoolOp .Or (a::b::rest) pos) (tE X af ag (Xq fa fb)):=λah s σ H Q I h =>
 BoolOp_or (thn (Gy ha I h) λv s1 z=>thn z <| by
  rintro k s2 ⟨p,xv,F1,st1,H1,I1,r1,R1,b1,z⟩
  cases k with
  | true=>exact⟨xv,H1,I1,r1,Tx.cD (z) _ H1 F1 R1 (Gr.refl _) b1⟩
  | false=>exact hb ah s2 σ H1 Q I1 ⟨F1,st1,R1,z⟩)
def Ut(ha:PE X a (tE X af ag fa))(hb:PE X (.BoolOp .And (b::rest) pos) (tE X af ag fb)):PE X (.BoolOp .And (a::b::rest) pos) (tE X af ag (O9 fa fb)):=λah s σ H Q I h =>
 BoolOp_and (thn (Gy ha I h) λv s1 z=>thn z <| by
  rintro k s2 ⟨p,xv,F1,st1,H1,I1,r1,R1,b1,z⟩
  cases k with
  | false=>exact⟨xv,H1,I1,r1,Tx.cD (z) _ H1 F1 R1 (Gr.refl _) b1⟩
  | true=>exact hb ah s2 σ H1 Q I1 ⟨F1,st1,R1,z⟩)
def Pa(fa:Gx PV):Gx PV:=bnd (toB fa) λx=>cD (.bl !x)
def Uu(ha:PE X a (tE X af ag fa)):PE X (.UnaryOp .Not a pos) (tE X af ag (Pa fa)):=(Ou ha).imp λσ H Q ⟨F,st,R,h⟩ =>
 toB_imp ⟨F,st,R,h.bnd λx y F1 st1 H1 R1 g1 b1 h1=>by
  cases b1;exact h1.cD _ H1 F1 R1 (Gr.refl _) (bz.mpr rfl)⟩
def Y0(hc:PT X c (tT X af ag ga))(ha:PE X a (tE X af ag fa))(hb:PE X b (tE X af ag fb)):PE X (.IfExp c a b pos) (tE X af ag (ow ga fa fb)):=(FO hc ha hb).imp λ_ _ _ h=>vI h
def i7(f:Gx PV)(g:Gx (List PV)):Gx (List PV):=bnd f λx=>bnd g λxs=>cD (x::xs)
def Uv:PA X [] (tA X af ag (cD [])):=qu.imp λσ H Q h=>vJ h λ_=>.nil
def Pb(ha:PE X e (tE X af ag fa))(hr:PA X es (tA X af ag ts))(hs:starEach (e::es) X.env=(false,eval e X.env)::starEach es X.env:=by rfl):PA X (e::es) (tA X af ag (i7 fa ts)) :=
 (gY ha hr hs).imp (by rintro σ H Q ⟨F,st,R,h⟩;exact⟨F,st,R,h.bnd λp v F1 st1 H1 R1 g1 b1 h1=>⟨F1,st1,R1,h1.bnd λps vs F2 dE H2 R2 g2 b2 h2=>h2.cD _ H2 F2 R2 (Gr.refl _) (.cons (b1.mono g2) b2)⟩⟩)
noncomputable def ic:Nat:=4000000
def d7{n:Nat}(h:n<=ic):n<=sizeLine:=aR h (by decide)
def small(ps:List PV)(p:PV):Option PV:=if ps.length<=ic then some p else none
def Pc(k:Kd)(ts:Gx (List PV)):Gx PV:=bnd ts λps=>jd (small ps (.nd k ps))
def Uw{x1}(h:PA X es (tA X af ag ts)):PE X (.Tuple es x1 pos) (tE X af ag (Pc .au ts)):=(OT h).imp λσ H Q ⟨F,st,R,h⟩=>⟨F,st,R,h.bnd λps vs F1 st1 H1 R1 g1 b1 h1=>by
 obtain⟨p,e,z⟩:=h1.jd;obtain⟨hl,rfl⟩:=aD e;refine⟨d7 (by rw[<-b1.length];exact hl),λa hn=>?_⟩
 obtain⟨R2,s2⟩:=R1.laid (.au vs) hn;exact z _ _ _ R2 s2 (bO.mpr ⟨a,vs,rfl,iG.of aB,b1.mono s2⟩)⟩
def Ux(h:PA X es (tA X af ag ts)):PE X (.List es pos) (tE X af ag (Pc .lst ts)):=(Gd h).imp λσ H Q ⟨F,st,R,h⟩=>⟨F,st,R,h.bnd λps vs F1 st1 H1 R1 g1 b1 h1=>by
 obtain⟨p,e,z⟩:=h1.jd;obtain⟨hl,rfl⟩:=aD e;refine⟨d7 (by rw[<-b1.length];exact hl),λa hn=>?_⟩
 obtain⟨R2,s2⟩:=R1.laid (.lst vs) hn;exact z _ _ _ R2 s2 (dw.mpr ⟨a,vs,rfl,iH.of aB,b1.mono s2⟩)⟩
noncomputable def jH(c:aj):Gx PV:=λst=>some (.ok (.ref st.h.length),⟨st.ρ,st.h++[c]⟩)
def Tx.jH{c:aj}{F:Fz}{st:b8}{σ:St}{H:Hp}{Q:VK}{p:Addr}{o:HO}{vs:List V}(h:Tx X af ag (bj X.K) F st (jH c) σ Q)(R:Rep X.K af ag F st σ H)(hp:H p=none)
  (hn:kU X.K F.F (cU H p o) p true c.k vs) (hb:ay X.K F c.ps vs):Q (.ref p) (cU H p o):=by
 obtain⟨r,h1,h2⟩:=h;cases h1;obtain⟨C,g,hm⟩:=R.c.alloc hp hn hb;exact h2 _ _ _ ⟨C,R.l.mono g⟩ g (dk.mpr ⟨p,hm,rfl⟩)
def DO(ts:Gx (List PV)):Gx PV:=bnd ts λps=>bnd (jd (small ps .aL)) λ_=>jH ⟨.lst,ps⟩
def Pd(h:PA X es (tA X af ag ts)):PE X (.List es pos) (tE X af ag (DO ts)):=(Gd h).imp λσ H Q ⟨F,st,R,h⟩=>⟨F,st,R,h.bnd λps vs F1 st1 H1 R1 g1 b1 h1=>by
 obtain⟨p,e,z⟩:=At.jd (At.bnd h1);obtain⟨hl,rfl⟩:=aD e;exact⟨d7 (by rw[<-b1.length];exact hl),λa hn=>Tx.jH z R1 hn aB b1⟩⟩
end
inductive dJ where
 | nx | bk | ct | rt (p:PV)
def xP(X:Cx)(af:Hp)(ag F:Fz)(D:xC):dJ->b8->Prop
 | .nx,st=>∀F' bF H',Rep X.K af ag F' st bF H'->Gr F F'->D.nx bF H'
 | .bk,st=>∀F' bF H',Rep X.K af ag F' st bF H'->Gr F F'->D.bk bF H'
 | .ct,st=>∀F' bF H',Rep X.K af ag F' st bF H'->Gr F F'->D.ct bF H'
 | .rt p,st=>∀v F' H',lG X.K af ag F' st.h H'->Gr F F'->bj X.K F' p v->D.rt v H'
def Sa(X:Cx)(af:Hp)(ag F:Fz)(D:xC)(st:b8)(f:Gx dJ):Prop:=At X af ag F st f (xP X af ag F D)
def tS(X:Cx)(af:Hp)(ag:Fz)(f:Gx dJ):TS:=λD σ H=>∃F st,Rep X.K af ag F st σ H/\Sa X af ag F D st f
section
variable {X:Cx} {af:Hp} {ag F F1:Fz} {D:xC} {st:b8} {α β:Type}
theorem xP.mono(g:Gr F F1):∀(o:dJ) (st:b8),xP X af ag F D o st->xP X af ag F1 D o st
 | .nx,_,h=>λF' bF H' R z=>h F' bF H' R (g.trans z)
 | .bk,_,h=>λF' bF H' R z=>h F' bF H' R (g.trans z)
 | .ct,_,h=>λF' bF H' R z=>h F' bF H' R (g.trans z)
 | .rt _,_,h=>λv F' H' R z=>h v F' H' R (g.trans z)
def Sa.mono(h:Sa X af ag F D st f)(g:Gr F F1):Sa X af ag F1 D st f:=At.imp h g (xP.mono g)
def Sa.bnd(h:Sa X af ag F D st (bnd f k))
  (i:∀a b F1 st1 H1,Rep X.K af ag F1 st1 σ H1->Gr F F1->rl F1 a b->Sa X af ag F1 D st1 (k a)->Q b H1):Tx X af ag rl F st f σ Q :=
 At.imp (At.bnd h) (Gr.refl F) λa st1 q b H1 F1 R1 g1 r1=>i a b F1 st1 H1 R1 g1 r1 (Sa.mono q g1)
end
section
variable {X:Cx} {af:Hp} {ag:Fz} {a b c e tg iter:Expr} {es:List Expr} {fe:Gx PV} {gc:Gx Bool} {pos:Pos} {s:Stmt} {ss body:List Stmt} {f g fb:Gx dJ}
def onK(g:Gx dJ):dJ->Gx dJ
 | .nx=>g
 | .bk=>cD .bk
 | .ct=>cD .ct
 | .rt p=>cD (.rt p)
def qF(f g:Gx dJ):Gx dJ:=bnd f (onK g)
def Pe:PSs X [] (tS X af ag (cD .nx)):=JT.imp (by rintro D σ H ⟨F,st,R,h⟩;exact At.cD h F σ H R (Gr.refl F))
def Kv(h1:PS X s (tS X af ag f))(h2:PSs X ss (tS X af ag g)):PSs X (s::ss) (tS X af ag (qF f g)):=(FP h1 h2).imp λD σ H ⟨F,st,R,h⟩ =>
 ⟨F,st,R,At.imp (At.bnd h) (Gr.refl F) λo st1 q=>match o,q with
  | .nx,q=>λF1 iK H1 R1 g1=>⟨F1,st1,R1,Sa.mono q g1⟩
  | .bk,q=>λF' bF H'=>At.cD q F' bF H'
  | .ct,q=>λF' bF H'=>At.cD q F' bF H'
  | .rt p,q=>λv F' H'=>At.cD q v F' H'⟩
def Pf(h1:PS X s (tS X af ag f)):PSs X [s] (tS X af ag f):=JU h1
def Ph:PS X (.Pass pos) (tS X af ag (cD .nx)):=JV.imp (by rintro D σ H ⟨F,st,R,h⟩;exact At.cD h F σ H R (Gr.refl F))
def Kw:PS X (.Break pos) (tS X af ag (cD .bk)):=FQ.imp (by rintro D σ H ⟨F,st,R,h⟩;exact At.cD h F σ H R (Gr.refl F))
def Pj:PS X (.Continue pos) (tS X af ag (cD .ct)):=xD.imp (by rintro D σ H ⟨F,st,R,h⟩;exact At.cD h F σ H R (Gr.refl F))
def Gz(fe:Gx PV):Gx dJ:=bnd fe λp=>cD (.rt p)
def MZ(he:PE X e (tE X af ag fe)):PS X (.Return (some e) pos) (tS X af ag (Gz fe)):=(Ox he).imp (by rintro D σ H ⟨F,st,R,h⟩;exact⟨F,st,R,h.bnd λp v F1 st1 H1 R1 g1 b1 h1=>At.cD h1 v F1 H1 R1.c (Gr.refl _) b1⟩)
def Pm:PS X (.Return none pos) (tS X af ag (cD (.rt .aL))):=JX.imp (by rintro D σ H ⟨F,st,R,h⟩;exact At.cD h _ F H R.c (Gr.refl _) (cW.mpr rfl))
def Y1(hc:PT X c (tT X af ag gc))(ha:PSs X p (tS X af ag f))(hb:PSs X r (tS X af ag g)):PS X (.If c p r pos) (tS X af ag (ow gc f g)) :=
 (Tz hc ha hb).imp λD σ H ⟨F,st,R,h⟩=>⟨F,st,R,h.bnd λx y F1 st1 H1 R1 g1 b1 h1=>by
  cases b1;cases x with
  | true=>exact⟨F1,st1,R1,h1⟩
  | false=>exact⟨F1,st1,R1,h1⟩⟩
def BV(fe:Gx PV):Gx dJ:=bnd fe λ_=>cD .nx
def Pn(he:PE X e (tE X af ag fe))(hs:swapsWith e none pos.line X.env=pure false:=by rfl):PS X (.Expr e pos) (tS X af ag (BV fe)):=(JW he hs).imp λD σ H ⟨F,st,R,h⟩ =>
 ⟨F,st,R,h.bnd λp v F1 st1 H1 R1 g1 b1 h1=>At.cD h1 F1 σ H1 R1 (Gr.refl _)⟩
abbrev Tg:=PV->b8->Option b8
abbrev Sx:=List PV->b8->Option b8
def tG(K:W.Frag)(af:Hp)(ag:Fz)(g:Tg):TG:=λv σ H Q=>∃F st p st',Rep K af ag F st σ H/\bj K F p v/\g p st=some st'/\∀bF H' F',Rep K af ag F' st' bF H'->Gr F F'->Q bF H'
def Uy(K:W.Frag)(af:Hp)(ag:Fz)(g:Sx):MR:=λvs σ H Q=>∃F st ps st',Rep K af ag F st σ H/\ay K F ps vs/\g ps st=some st'/\∀bF H' F',Rep K af ag F' st' bF H'->Gr F F'->Q bF H'
noncomputable def dh(i:Nat):Tg:=λp st=>if i<st.ρ.length then some ⟨st.ρ.set i (some p),st.h⟩else none
def Lc.set{K:W.Frag}(L:Lc K F ρ σ)(hi:i<ρ.length)(hb:bj K F p v):Lc K F (ρ.set i (some p)) (σ.set i (some v)) where
 av:=λj q e=>by
  by_cases h:i=j
  ·subst h;rw[uI hi]at e;cases e;exact⟨v,uI (by rw[<-L.len];exact hi),hb⟩
  ·rw[bY h]at e;rw[bY h];exact L.av j q e
 len:=by rw[gD,gD];exact L.len
def Po(i:Nat)(h:PG X (.Name x pos) (gName i)):PG X (.Name x pos) (tG X.K af ag (dh i)):=h.imp <| by
 rintro v σ H Q ⟨F,st,p,st',R,hb,hf,q⟩
 obtain⟨hi,rfl⟩:=aD hf;exact q _ _ _ ⟨R.c,R.l.set hi hb⟩ (Gr.refl F)
noncomputable def DP:Sx:=λps st=>match ps with | []=>some st | _=>none
noncomputable def qG(g:Tg)(r:Sx):Sx:=λps st=>match ps with | p::ps=>(g p st).bind λst'=>r ps st' | []=>none
def Pp:PGs X [] (Uy X.K af ag DP):=JZ.imp <| by
 rintro vs σ H Q ⟨F,st,ps,st',R,hb,hf,q⟩
 cases ps with
 | nil=>cases hf;exact⟨hb.cA,q _ _ _ R (Gr.refl F)⟩
 | cons _ _=>cases hf
def Kx(h1:PG X e (tG X.K af ag t))(h2:PGs X es (Uy X.K af ag u))(hs:(assignEach (e::es) X.env).map (·.2)=assign e X.env::(assignEach es X.env).map (·.2):=by rfl) :
  PGs X (e::es) (Uy X.K af ag (qG t u)):=(FV h1 h2 hs).imp <| by
 rintro vs σ H Q ⟨F,st,ps,st',R,hb,hf,q⟩
 cases ps with
 | nil=>cases hf
 | cons p ps =>
  obtain⟨v,r,rfl,b1,b2⟩:=hb.bV;obtain⟨st1,e1,e2⟩:=aO hf;exact⟨v,r,rfl,F,st,p,st1,R,b1,e1,λiK H1 F1 R1 s1=>⟨F1,st1,ps,st',R1,b2.mono s1,e2,λBL H2 F2 R2 s2=>q BL H2 F2 R2 (s1.trans s2)⟩⟩
def _root_.L2.Inv.lX{s:Shared}{a:Addr}(I:Inv X ah σ H s)(h:iH X.K H a xs):∃(ax:List Value) (n:Nat),Vals xs ax/\s.heap.get? a=some {cls:=.type "list",data:=.seq ax.toArray n}/\xs.length<=sizeLine:=by
 rcases h with h | ⟨ax,n,e,z,r⟩
 ·obtain⟨z,ax,n,r,e⟩:=h.ok I.hok;exact⟨ax,n,r,e,z⟩
 ·exact⟨ax,n,r,I.oj a _ e,by rw[r.length];exact z⟩
def Pq{es:List Expr}{k:Nat}{t:MR}{n:Nat}(hc:X.calm=true)(h:PGs X es t)
 (hn:(assignEach es X.env).length=n:=by rfl) (sg:(assignEach es X.env).findIdx? (·.1)=none:=by rfl):PG X (.Tuple es k pos) (λv σ H Q=>∃a xs,v=.ref a/\iH X.K H a xs/\xs.length=n/\t xs σ H Q):=by
 intro ah s σ H v u Q I r hw;obtain⟨a,xs,e1,hq,hl,hw⟩:=hw;subst e1;cases r;obtain⟨ax,m,rv,e,hz⟩:=I.lX hq;rw[PyProof.Rows.assign_Tuple];refine ai (vf ?_);unfold unpack;rw[show(assignEach es X.env).length=ax.toArray.size by simp[hn,<-hl,rv.length],sg]
 refine ai (dY (W.kun_itemsOf (I.ok.hd hc) ⟨_,e,rfl,_,rfl⟩ λh' hx=>?_))
 have I1:=I.kept (t':=s.toks) λb o e=>hx b o (bC (aI e)) e
 exact h ah _ σ H xs _ Q I1 (by grind) hw
noncomputable def AA(n:Nat)(t:Sx):Tg:=λp st=>match p with | .nd .au ps=>if ps.length=n then t ps st else none | .nd .lst ps=>if ps.length=n then t ps st else none | _=>none
def Uz(hc:X.calm=true)(h:PGs X es (Uy X.K af ag t))(hn:(assignEach es X.env).length=n:=by rfl)(sg:(assignEach es X.env).findIdx? (·.1)=none:=by rfl) :
  PG X (.Tuple es k pos) (tG X.K af ag (AA n t)):=by
 rintro ah s σ H v u Q I r ⟨F,st,p,st',R,hb,hf,q⟩
 unfold AA at hf;split at hf
 ·obtain⟨hl,hf⟩:=bS hf;obtain⟨a,vs,rfl,hs,qH⟩:=bO.mp hb;exact Oy hc h hn sg ah s σ H _ u Q I r ⟨a,vs,rfl,cP R.sub hs,by rw[<-qH.length];exact hl,F,st,_,st',R,qH,hf,q⟩
 ·obtain⟨hl,hf⟩:=bS hf;obtain⟨a,vs,rfl,hs,qH⟩:=dw.mp hb;exact Pq hc h hn sg ah s σ H _ u Q I r ⟨a,vs,rfl,jG R.sub hs,by rw[<-qH.length];exact hl,F,st,_,st',R,qH,hf,q⟩
 ·cases hf
noncomputable def stp(g:b8->Option b8):Gx dJ:=λst=>(g st).map λst'=>(.ok .nx,st')
def Sa.stp{st:b8}{g:b8->Option b8}(h:Sa X af ag F D st (stp g)):∃st',g st=some st'/\∀F' bF H',Rep X.K af ag F' st' bF H'->Gr F F'->D.nx bF H':=by
 obtain⟨r,h1,h2⟩:=h;obtain⟨st',e1,e2⟩:=aQ h1;subst e2;exact⟨st',e1,h2⟩
def lZ(fe:Gx PV)(g:Tg):Gx dJ:=bnd fe λp=>stp (g p)
def Ky{g:Tg}(h:tS X af ag (lZ fe g) D σ H):J0 (tE X af ag fe) (tG X.K af ag g) D σ H:=by
 obtain⟨F,st,R,h⟩:=h;refine⟨F,st,R,h.bnd λp v F1 st1 H1 R1 g1 b1 h1=>?_⟩
 obtain⟨st',e,z⟩:=h1.stp;exact⟨F1,st1,p,st',R1,b1,e,λBL H2 F2 R2 s2=>z F2 BL H2 R2 s2⟩
def UA{g:Tg}(he:PE X e (tE X af ag fe))(hg:PG X tg (tG X.K af ag g))(hs:swapsWithSole [tg] e pos.line X.env=pure false:=by rfl)(hw:swappedStores [tg] e X.env=pure none:=by rfl)
  (h1:(assignEach [tg] X.env).map (·.2)=[assign tg X.env]:=by rfl):PS X (.Assign [tg] e pos) (tS X af ag (lZ fe g)):=(FW he hg hs hw h1).imp λ_ _ _ h=>Ky h
def Walk(K:W.Frag)(F:Fz)(ps:List PV)(J:It):Prop:=∀(af:Hp) (ag F':Fz) (st:b8) (σ:St) (H:Hp),Rep K af ag F' st σ H->Gr F F'->∀i:Nat,
 (∀p,ps[i]?=some p->J.go i H/\∀x H',J.yld i H x H'->∃GA,Rep K af ag GA st σ H'/\Gr F' GA/\bj K GA p x)/\(ps[i]?=none->J.stop i H)
abbrev tI(X:Cx)(af:Hp)(ag:Fz)(f:Gx (List PV)):TI:=tX X af ag (Walk X.K) f
def qI(r:Gx dJ):dJ->Gx dJ
 | .nx=>r
 | .ct=>r
 | .bk=>cD .nx
 | .rt p=>cD (.rt p)
def gj(g:Tg)(body:Gx dJ):List PV->Gx dJ
 | []=>cD .nx
 | p::ps=>bnd (stp (g p)) λ_=>bnd body (qI (gj g body ps))
def Sa.qi{st:b8}(N:St->Hp->Prop)(hN:∀F1 st1 iK H1,Rep X.K af ag F1 st1 iK H1->Gr F F1->Sa X af ag F1 D st1 r->N iK H1)(h:Sa X af ag F D st (U.bnd fb (qI r))):Sa X af ag F {D with nx:=N,ct:=N,bk:=D.nx} st fb :=
 At.imp (At.bnd h) (Gr.refl F) λo st1 q=>match o,q with
  | .nx,q=>λF1 iK H1 R1 g1=>hN F1 st1 iK H1 R1 g1 (Sa.mono q g1)
  | .ct,q=>λF1 iK H1 R1 g1=>hN F1 st1 iK H1 R1 g1 (Sa.mono q g1)
  | .bk,q=>λF' bF H'=>At.cD q F' bF H'
  | .rt p,q=>λv F' H'=>At.cD q v F' H'
def kZ(gc:Gx Bool)(body:Gx dJ):Nat->Gx dJ
 | 0=>λ_=>none
 | n+1=>bnd gc λc=>if c=true then bnd body (qI (kZ gc body n))else cD .nx
def Kz(n:Nat)(hp:PassesOwn (model X.prog X.w) X.A X.env X.xe)(hc:PT X c (tT X af ag gc))(hb:PSs X body (tS X af ag fb)):PS X (.While c body [] pos) (tS X af ag (kZ gc fb n)) :=
 (FX hp hc hb).imp <| by
 rintro D σ H ⟨F,st,R,h⟩
 refine⟨λm bF H'=>∃F' st',Rep X.K af ag F' st' bF H'/\Sa X af ag F' D st' (kZ gc fb m),⟨n,F,st,R,h⟩,λm bF H' ⟨F',st',R',h'⟩=>?_⟩
 cases m with
 | zero=>obtain⟨r,e,_⟩:=h';cases e
 | succ m =>
  refine⟨F',st',R',Sa.bnd h' λx y F1 st1 H1 R1 g1 b1 h1=>?_⟩
  cases b1;cases x with
  | false=>exact At.cD h1 F1 bF H1 R1 (Gr.refl _)
  | true=>exact⟨λBL H2=>∃F2 dE,Rep X.K af ag F2 dE BL H2/\Sa X af ag F2 D dE (kZ gc fb m),λBL H2 n2=>⟨m,pO m,n2⟩,F1,st1,R1,Sa.qi _ (λF4 EZ M0 H4 R4 g4 z=>⟨F4,EZ,R4,z⟩) h1⟩
end
def sizeOk(n:Nat)(p:PV):Option PV:=if n<=ic then some p else none
def jI(h:sizeOk n p=some q):n<=sizeLine/\p=q:=by
 obtain⟨h1,h2⟩:=aD h;exact⟨d7 h1,h2⟩
def ox(h:List aj)(p:PV):Option (List PV):=match cQ h p with | some (.lst,ps)=>some ps | _=>none
def eP(e:ox h p=some ps):cQ h p=some (.lst,ps):=by
 unfold ox at e;split at e
 ·grind
 ·cases e
def gK:G2:=λh p q=>match p,q with
 | .int i,.int j=>some (.int (i+j))
 | .str x,.str y=>sizeOk (x.length+y.length) (.str (x++y))
 | .nd .au xs,.nd .au ys=>sizeOk (xs.length+ys.length) (.au (xs++ys))
 | p,q=>(ox h p).bind λxs=>(ox h q).bind λys=>sizeOk (xs.length+ys.length) (.lst (xs++ys))
noncomputable def nD(c:Int->Int->Bool)(f:Int->Int->PV):G2:=λ_ p q=>match p,q with
 | .int i,.int j=>if c i j=true then some (f i j)else none
 | _,_=>none
noncomputable def oy:Int:=18446744073709551616
def KA:G2:=nD (λ_ _=>true) λi j=>.int (i-j)
def UB:G2:=nD (λi j=>decide ((-oy<i/\i<oy)\/(-oy<j/\j<oy))) λi j=>.int (i*j)
def gL:G2:=nD (λ_ j=>decide (0<j/\j<1073741824)) λi j=>.int (i/j)
def cE:G2:=nD (λ_ j=>decide (0<j)) λi j=>.int (i%j)
def Pr:G2:=nD (λi j=>decide (0<=j/\j<=1000/\i.natAbs<1000)) λi j=>.int (i^j.toNat)
def UC:G2:=nD (λ_ _=>true) λi j=>.bl (decide (i<j))
def leO:G2:=nD (λ_ _=>true) λi j=>.bl (decide (i<=j))
def UD:G2:=nD (λ_ _=>true) λi j=>.bl (decide (j<=i))
section
variable {X:Cx}
def GB{ws:List Value}(ht:IsTup s.heap t ([]:List Value).toArray)(hb:IsTup s.heap b ws.toArray)(h1:Q (.ref b) s):wpAny (model prog w) A (binaryOp .Add (.ref t) (.ref b)) Q E s:=by
 obtain⟨⟨cls,dd,data,sl⟩,ho,hc,n,hd⟩:=id ht;obtain⟨⟨YJ,Xl,T5,OW⟩,OX,OY,n2,hd2⟩:=id hb;simp only at hc hd OY hd2;subst hc hd OY hd2;exact concat_meets ⟨_,ho,rfl⟩ ⟨_,OX,rfl⟩ zK seq_tuple_add zx zq (zk _ _) (tuple_addW0 t b _ ws.toArray n n2 dd Xl sl OW (by simp)) ⟨ho,OX,h1⟩
def KC:oY X (binaryOp .Add) gK:=by
 rintro ah s σ H x y v u Q I rx ry ⟨af,ag,F,st,τ,pa,pb,p,e,R,ba,bb,k⟩
 unfold gK at e;split at e
 ·cases e;rw[aE.mp ba]at rx;rw[aE.mp bb]at ry;exact OI ah s σ H _ _ v u Q I rx ry ⟨_,_,rfl,rfl,k _ H F R (Gr.refl F) (aE.mpr rfl)⟩
 ·obtain⟨hz,rfl⟩:=jI e;rw[bN.mp ba]at rx;rw[bN.mp bb]at ry;exact Aq ah s σ H _ _ v u Q I rx ry ⟨_,_,rfl,rfl,hz,k _ H F R (Gr.refl F) (bN.mpr rfl)⟩
 ·rename_i xs ys;obtain⟨hz,rfl⟩:=jI e;obtain⟨a,vs,rfl,ha,gA⟩:=bO.mp ba;obtain⟨b,ws,rfl,hb,Jr⟩:=bO.mp bb;have UE:=cP R.sub ha;have j4:=cP R.sub hb;cases xs with
  | nil =>
   rw[gA.cA]at UE;cases rx;cases ry;obtain⟨ax,r1,p1,_⟩:=I.tuple UE;obtain⟨eK,r2,p2,_⟩:=I.tuple j4;cases r1;exact GB p1 p2 ⟨.ref b,H,I,rfl,k _ H F R (Gr.refl F) (bO.mpr ⟨b,ws,rfl,hb,Jr⟩)⟩
  | cons x0 xr =>
   refine Kj ah s σ H _ _ v u Q I rx ry ⟨a,b,vs,ws,rfl,rfl,UE,j4,?_,by rw[<-gA.length,<-Jr.length];exact hz,λz=>?_,λz q hq=>?_⟩
   ·intro z;have:=gA.length;rw[z]at this;cases this
   ·subst z;have hy:=uE Jr.length;subst hy;rw[c6]at k;exact k _ H F R (Gr.refl F) (bO.mpr ⟨a,vs,rfl,ha,gA⟩)
   ·obtain⟨R2,s2⟩:=R.laid (.au (vs++ws)) hq;exact k _ _ _ R2 s2 (bO.mpr ⟨q,_,rfl,iG.of aB,(gA.append Jr).mono s2⟩)
 ·obtain⟨xs,e1,e⟩:=aO e;obtain⟨ys,e2,e⟩:=aO e;obtain⟨hz,rfl⟩:=jI e;obtain⟨a,vs,rfl,ha,gA⟩:=R.at (eP e1) ba;obtain⟨b,ws,rfl,hb,Jr⟩:=R.at (eP e2) bb;cases rx;cases ry;obtain⟨ax,n,r,e1,z1⟩:=I.lX ha;obtain⟨eK,n2,r2,e2,z2⟩:=I.lX hb;have hl:=r.length;have Xr:=r2.length;have hz':vs.length+ws.length<=sizeLine:=by rw[<-gA.length,<-Jr.length];exact hz
  refine PySem.P.add_list e1 e2 ?_ (by grind)
  have ea:ax.toArray++eK.toArray=(ax++eK).toArray:=by simp
  rw[ea];obtain⟨R2,s2⟩:=R.laid (.lst (vs++ws)) I.fresh;exact⟨.ref _,_,I.O6 (r.append r2) (by grind),rfl,k _ _ _ R2 s2 (dw.mpr ⟨_,_,rfl,iH.of aB,(gA.append Jr).mono s2⟩)⟩
def eY(ho:OpR X f (rI C h))(hc:∀i j,c i j=true->C i j)(hg:∀i j F,bj X.K F (g i j) (h i j)):oY X f (nD c g):=by
 rintro ah s σ H x y v u Q I rx ry ⟨af,ag,F,st,τ,pa,pb,p,e,R,ba,bb,k⟩
 unfold nD at e;split at e
 ·obtain⟨h1,rfl⟩:=aD e;rw[aE.mp ba]at rx;rw[aE.mp bb]at ry;exact ho ah s σ H _ _ v u Q I rx ry ⟨_,_,rfl,rfl,hc _ _ h1,k _ H F R (Gr.refl F) (hg _ _ F)⟩
 ·cases e
def tN(ho:OpR X f (Jp h)):OpR X f (rI (λ_ _=>True) h):=(by rintro ah s σ H x y v u Q I rx ry ⟨i,j,h1,h2,_,q⟩;exact ho ah s σ H x y v u Q I rx ry ⟨i,j,h1,h2,q⟩)
end
def Pt:Operator->Option G2
 | .Add=>some gK
 | .Sub=>some KA
 | .Mult=>some UB
 | .FloorDiv=>some gL
 | .Mod=>some cE
 | .Pow=>some Pr
 | _=>none
def KD(h:Pt op=some g):oY X (binaryOp op) g:=by
 unfold Pt at h;split at h<;>cases h
 ·exact KC
 ·exact eY (tN OJ) (by grind) λ_ _ _=>aE.mpr rfl
 ·exact eY OK (λi j e=>show(-oy<i/\i<oy)\/(-oy<j/\j<oy)from iA e) λ_ _ _=>aE.mpr rfl
 ·exact eY J3 (λ_ j e=>show 0<j/\j<1073741824 from iA e) λ_ _ _=>aE.mpr rfl
 ·exact eY OL (λ_ _ e=>iA e) λ_ _ _=>aE.mpr rfl
 ·exact eY OM (λ_ _ e=>let ⟨h1,h2,h3⟩:=iA e;⟨h1,by lia,jx h3 (by decide)⟩) λ_ _ _=>aE.mpr rfl
inductive Tr where
 | aL | bl (b:Bool) | int (i:Int) | str (x:Str) | au (xs:List Tr) | lst (xs:List Tr)
mutual
def eqT:Tr->Tr->Bool
 | .aL,.aL=>true
 | .bl a,.bl b=>a==b
 | .bl a,.int b=>(if a then 1 else 0)==b
 | .int a,.bl b=>a==(if b then 1 else 0)
 | .int a,.int b=>a==b
 | .str a,.str b=>a==b
 | .au xs,.au ys=>vK xs ys
 | .lst xs,.lst ys=>vK xs ys
 | _,_=>false
def vK:List Tr->List Tr->Bool
 | [],[]=>true
 | x::xs,y::ys=>eqT x y&&vK xs ys
 | _,_=>false
end
mutual
def dep:Tr->Nat
 | .au xs=>kj xs+1
 | .lst xs=>kj xs+1
 | _=>0
def kj:List Tr->Nat
 | []=>0
 | x::xs=>max (dep x) (kj xs)
end
mutual
theorem fU:∀p:Tr,eqT p p=true
 | .aL=>rfl
 | .bl b=>eU b
 | .int b=>eU b
 | .str b=>eU b
 | .au xs=>nE xs
 | .lst xs=>nE xs
theorem nE:∀ps:List Tr,vK ps ps=true
 | []=>rfl
 | x::xs=>pE.mpr ⟨fU x,nE xs⟩
end
theorem l4:∀{xs ys:List Tr},xs.length≠ys.length->vK xs ys=false
 | [],[],h=>absurd rfl h
 | [],_::_,_=>rfl
 | _::_,[],_=>rfl
 | x::xs,y::ys,h=>by show(eqT x y&&vK xs ys)=false;rw[l4 (by simpa using h),aU]
noncomputable def qJ(xs ys:List Tr)(j:Nat):Bool:=match xs[j]?,ys[j]? with
 | some x,some y=>eqT x y
 | _,_=>true
theorem l7:∀{xs ys:List Tr},xs.length=ys.length->(List.range xs.length).all (qJ xs ys)=vK xs ys
 | [],[],_=>rfl
 | [],_::_,h=>by cases h
 | _::_,[],h=>by cases h
 | x::xs,y::ys,h=>by
  have ih:=l7 (by simpa using h)
  rw[cq,List.range_succ_eq_map,iC,List.all_map];have e0:qJ (x::xs) (y::ys) 0=eqT x y:=rfl;have e1:(qJ (x::xs) (y::ys) ∘ Nat.succ)=qJ xs ys:=by
   funext j
   simp[qJ,Function.comp]
  rw[e0,e1,ih];rfl
def BW(h1:xs.length=m)(h2:ys.length=n):((List.range (min m n)).all (qJ xs ys)&&(m==n))=vK xs ys:=by
 subst h1 h2;by_cases h:xs.length=ys.length
 ·rw[<-h,Nat.min_self,l7 h];simp
 ·rw[l4 h];simp[h]
mutual
def dm(s:Shared):Tr->Value->Prop
 | .aL,u=>u=.none
 | .bl b,u=>u=.bool b
 | .int i,u=>∃t,u=.int i t
 | .str x,u=>∃t,u=.str x t
 | .au ts,u=>∃a ax,u=.ref a/\s.heap.IsTuple a ax.toArray/\cf s ts ax
 | .lst ts,u=>∃a ax,u=.ref a/\s.heap.IsList a ax.toArray/\cf s ts ax
def cf(s:Shared):List Tr->List Value->Prop
 | [],us=>us=[]
 | t::ts,us=>∃u r,us=u::r/\dm s t u/\cf s ts r
end
section
variable {A:Around} {s:Shared}
theorem cf.len:∀{ts:List Tr} {us:List Value},cf s ts us->ts.length=us.length
 | [],_,h=>by simp only[cf]at h;rw[h];rfl
 | _::_,_,h=>by
  simp only[cf]at h;obtain⟨u,r,rfl,_,h⟩:=h;simp[cf.len h]
def j3(h1:s.heap.IsTuple a x)(h2:s.heap.IsTuple a y):x=y:=by
 obtain⟨o,e,_,n,d⟩:=h1;obtain⟨o',e',_,n',d'⟩:=h2;rw[e]at e';cases e';rw[d]at d';cases d';rfl
def lN(h1:s.heap.IsList a x)(h2:s.heap.IsList a y):x=y:=by
 obtain⟨o,e,_,n,d⟩:=h1;obtain⟨o',e',_,n',d'⟩:=h2;rw[e]at e';cases e';rw[d]at d';cases d';rfl
def qK(h1:s.heap.IsTuple a x)(h2:s.heap.IsList a y):False:=by
 obtain⟨o,e,c,n,d⟩:=h1;obtain⟨o',e',c',n',d'⟩:=h2;rw[e]at e';cases e';rw[c]at c';simp at c'
mutual
theorem dm.inj:∀{p q:Tr} {u:Value},dm s p u->dm s q u->p=q
 | .aL,q,u,h,h'=>by cases q<;>simp_all [dm]
 | .bl b,q,u,h,h'=>by cases q<;>simp_all [dm]
 | .int b,q,u,h,h'=>by
  simp only[dm]at h;obtain⟨t,rfl⟩:=h;cases q<;>simp_all [dm]
 | .str b,q,u,h,h'=>by
  simp only[dm]at h;obtain⟨t,rfl⟩:=h;cases q<;>simp_all [dm]
 | .au xs,q,u,h,h'=>by
  simp only[dm]at h;obtain⟨a,ax,rfl,h1,h2⟩:=h;cases q with
  | au ys =>
   simp only[dm]at h';obtain⟨b,UG,e,g1,g2⟩:=h';cases e;have:=j3 h1 g1;have e:ax=UG:=by simpa using this
   subst e;rw[cf.inj h2 g2]
  | lst ys =>
   simp only[dm]at h';obtain⟨b,UG,e,g1,g2⟩:=h';cases e;exact(qK h1 g1).elim
  | _=>simp[dm]at h'
 | .lst xs,q,u,h,h'=>by
  simp only[dm]at h;obtain⟨a,ax,rfl,h1,h2⟩:=h;cases q with
  | lst ys =>
   simp only[dm]at h';obtain⟨b,UG,e,g1,g2⟩:=h';cases e;have:=lN h1 g1;have e:ax=UG:=by simpa using this
   subst e;rw[cf.inj h2 g2]
  | au ys =>
   simp only[dm]at h';obtain⟨b,UG,e,g1,g2⟩:=h';cases e;exact(qK g1 h1).elim
  | _=>simp[dm]at h'
theorem cf.inj:∀{ps qs:List Tr} {us:List Value},cf s ps us->cf s qs us->ps=qs
 | [],qs,us,h,h'=>by
  simp only[cf]at h;subst h;cases qs with
  | nil=>rfl
  | cons _ _=>simp[cf]at h'
 | p::ps,qs,us,h,h'=>by
  simp only[cf]at h;obtain⟨u,r,rfl,h1,h2⟩:=h;cases qs with
  | nil=>simp[cf]at h'
  | cons q qs =>
   simp only[cf]at h';obtain⟨u',r',e,g1,g2⟩:=h';cases e;rw[dm.inj h1 g1,cf.inj h2 g2]
end
def qL(h:b=c)(r:SeqAt.RcAt A s u w b):SeqAt.RcAt A s u w c:=h▸r
def k9(h:b = !c)(r:SeqAt.RcNeAt A s u w b):SeqAt.RcNeAt A s u w (!c):=h▸r
def BX(hf:∀x t,u≠.float x t)(h:SeqAt.RcAt A s u w b)(hb:u=w->b=true):SeqAt.EqAt A s u w b:=λprog v E Q hq=>by
 unfold eqBool;refine dY ?_;refine wpAny_ite_split (λz=>?_) (λ_=>?_)
 ·rw[hb (aV z)]at hq;exact ai (iE (ar hq))
 ·cases u with
  | float x t=>exact absurd rfl (hf x t)
  | _=>exact ai (h prog v E _ (jr hq))
def dm.M3(h:dm s p u):∀y t,u≠.float y t:=λy t z=>by
 subst z;cases p<;>simp[dm]at h
mutual
theorem vL:∀(p q:Tr) (A:Around) (u w:Value),dm s p u->dm s q w->A.units+dep p<cLine->SeqAt.RcAt A s u w (eqT p q)/\SeqAt.RcNeAt A s u w (!(eqT p q))
 | .aL,q,A,u,w,ha,hb,hu=>by
  have gM:A.units<cLine := ‹_›;subst ha;cases q with
  | aL=>cases hb;exact⟨.none_none,.none_none⟩
  | bl=>cases hb;exact⟨(.none_bool _),(.none_bool _)⟩
  | int=>obtain⟨t,rfl⟩:=hb;exact⟨(.none_int _ _),(.none_int _ _)⟩
  | str=>obtain⟨t,rfl⟩:=hb;exact⟨(.none_str _ _),(.none_str _ _)⟩
  | au=>obtain⟨a,ax,rfl,pR,_⟩:=hb;exact⟨(.none_tuple pR gM),(.none_tuple pR gM)⟩
  | lst=>obtain⟨a,ax,rfl,pR,_⟩:=hb;exact⟨(.none_list pR gM),(.none_list pR gM)⟩
 | .bl k,q,A,u,w,ha,hb,hu=>by
  have gM:A.units<cLine := ‹_›;subst ha;cases q with
  | aL=>cases hb;exact⟨(.bool_none _),(.bool_none _)⟩
  | bl=>cases hb;exact⟨(.bool_bool _ _),(.bool_bool _ _)⟩
  | int=>obtain⟨t,rfl⟩:=hb;exact⟨(.bool_int _ _ _),(.bool_int _ _ _)⟩
  | str=>obtain⟨t,rfl⟩:=hb;exact⟨(.bool_str _ _ _),(.bool_str _ _ _)⟩
  | au=>obtain⟨a,ax,rfl,pR,_⟩:=hb;exact⟨(.bool_tuple _ pR gM),(.bool_tuple _ pR gM)⟩
  | lst=>obtain⟨a,ax,rfl,pR,_⟩:=hb;exact⟨(.bool_list _ pR gM),(.bool_list _ pR gM)⟩
 | .int k,q,A,u,w,ha,hb,hu=>by
  have gM:A.units<cLine := ‹_›;obtain⟨tk,rfl⟩:=ha;cases q with
  | aL=>cases hb;exact⟨(.int_none _ _),(.int_none _ _)⟩
  | bl=>cases hb;exact⟨(.int_bool _ _ _),(.int_bool _ _ _)⟩
  | int=>obtain⟨t,rfl⟩:=hb;exact⟨(.int_int _ _ _ _),(.int_int _ _ _ _)⟩
  | str=>obtain⟨t,rfl⟩:=hb;exact⟨(.int_str _ _ _ _),(.int_str _ _ _ _)⟩
  | au=>obtain⟨a,ax,rfl,pR,_⟩:=hb;exact⟨(.int_tuple _ _ pR gM),(.int_tuple _ _ pR gM)⟩
  | lst=>obtain⟨a,ax,rfl,pR,_⟩:=hb;exact⟨(.int_list _ _ pR gM),(.int_list _ _ pR gM)⟩
 | .str k,q,A,u,w,ha,hb,hu=>by
  have gM:A.units<cLine := ‹_›;obtain⟨tk,rfl⟩:=ha;cases q with
  | aL=>cases hb;exact⟨(.str_none _ _),(.str_none _ _)⟩
  | bl=>cases hb;exact⟨(.str_bool _ _ _),(.str_bool _ _ _)⟩
  | int=>obtain⟨t,rfl⟩:=hb;exact⟨(.str_int _ _ _ _),(.str_int _ _ _ _)⟩
  | str=>obtain⟨t,rfl⟩:=hb;exact⟨(.str_str _ _ _ _),(.str_str _ _ _ _)⟩
  | au=>obtain⟨a,ax,rfl,pR,_⟩:=hb;exact⟨(.str_tuple _ _ pR gM),(.str_tuple _ _ pR gM)⟩
  | lst=>obtain⟨a,ax,rfl,pR,_⟩:=hb;exact⟨(.str_list _ _ pR gM),(.str_list _ _ pR gM)⟩
 | .au xs,q,A,u,w,ha,hb,hu=>by
  have gM:A.units<cLine:=by lia
  obtain⟨al,KH,rfl,pL,tL⟩:=ha;cases q with
  | aL=>cases hb;exact⟨(.tuple_none pL gM),(.tuple_none pL gM)⟩
  | bl=>cases hb;exact⟨(.tuple_bool _ pL gM),(.tuple_bool _ pL gM)⟩
  | int=>obtain⟨t,rfl⟩:=hb;exact⟨(.tuple_int _ _ pL gM),(.tuple_int _ _ pL gM)⟩
  | str=>obtain⟨t,rfl⟩:=hb;exact⟨(.tuple_str _ _ pL gM),(.tuple_str _ _ pL gM)⟩
  | lst=>obtain⟨a,ax,rfl,pR,_⟩:=hb;exact⟨(.tuple_list pL pR gM),(.tuple_list pL pR gM)⟩
  | au ys =>
   obtain⟨a,KI,rfl,pR,tR⟩:=hb;have e1:xs.length=KH.toArray.size:=by rw[cx,tL.len]
   have e2:ys.length=KI.toArray.size:=by rw[cx,tR.len]
   have el:=λj (h1:j<KH.toArray.size) (h2:j<KI.toArray.size)=>vM xs ys A.in1 KH KI tL tR (by rw[uW];have hu:_+(kj _+1)<_:=hu;lia) j (by simpa using h1) (by simpa using h2)
   exact⟨qL (BW e1 e2) (.tuples pL pR gM el),k9 (by rw[BW e1 e2];rfl) (.tuples pL pR gM el)⟩
 | .lst xs,q,A,u,w,ha,hb,hu=>by
  have gM:A.units<cLine:=by lia
  obtain⟨al,KH,rfl,pL,tL⟩:=ha;cases q with
  | aL=>cases hb;exact⟨(.list_none pL gM),(.list_none pL gM)⟩
  | bl=>cases hb;exact⟨(.list_bool _ pL gM),(.list_bool _ pL gM)⟩
  | int=>obtain⟨t,rfl⟩:=hb;exact⟨(.list_int _ _ pL gM),(.list_int _ _ pL gM)⟩
  | str=>obtain⟨t,rfl⟩:=hb;exact⟨(.list_str _ _ pL gM),(.list_str _ _ pL gM)⟩
  | au=>obtain⟨a,ax,rfl,pR,_⟩:=hb;exact⟨(.list_tuple pL pR gM),(.list_tuple pL pR gM)⟩
  | lst ys =>
   obtain⟨a,KI,rfl,pR,tR⟩:=hb;have e1:KH.toArray.size=xs.length:=by rw[cx,tL.len]
   have e2:KI.toArray.size=ys.length:=by rw[cx,tR.len]
   by_cases hl:xs.length=ys.length
   ·have sz:KH.toArray.size=KI.toArray.size:=by rw[e1,e2];exact hl
    have el:=λj (h1:j<KH.toArray.size) (h2:j<KI.toArray.size)=>vM xs ys A.in1 KH KI tL tR (by rw[uW];have hu:_+(kj _+1)<_:=hu;lia) j (by simpa using h1) (by simpa using h2)
    exact⟨qL (by rw[e1,l7 hl];rfl) (.lists pL pR sz gM el),k9 (by rw[e1,l7 hl];rfl) (.lists pL pR sz gM el)⟩
   ·have sz:(KH.toArray.size != KI.toArray.size)=true:=by rw[e1,e2];simpa using hl
    exact⟨qL (l4 hl).symm (.lists_lengths pL pR sz gM),k9 (dH not (l4 hl)).symm (.lists_lengths pL pR sz gM)⟩
theorem vM:∀(ps qs:List Tr) A (us zs:List Value),cf s ps us->cf s qs zs->A.units+kj ps<cLine ->
  ∀j h1 (h2:j<zs.length),SeqAt.EqAt A s us[j] zs[j] (qJ ps qs j)
 | [],qs,A,us,zs,b1,b2,hu=>λj h1 h2=>by
  simp only[cf]at b1;subst b1;cases h1
 | p::ps,qs,A,us,zs,b1,b2,hu=>λj h1 h2=>by
  simp only[cf]at b1;obtain⟨u,ur,rfl,c1,d1⟩:=b1;cases qs with
  | nil =>
   simp only[cf]at b2;subst b2;cases h2
  | cons q qs =>
   simp only[cf]at b2;obtain⟨z,zr,rfl,c2,d2⟩:=b2;have hm:A.units+dep p<cLine/\A.units+kj ps<cLine:=by
    simp only[kj]at hu
    lia
   cases j with
   | zero =>
    refine BX c1.M3 (vL p q A _ _ c1 c2 hm.1).1 λe=>?_
    simp only[List.getElem_cons_zero]at e;rw[e]at c1;rw[c1.inj c2];exact fU q
   | succ j=>exact vM ps qs A _ _ d1 d2 hm.2 j (by simpa using h1) (by simpa using h2)
end
def Pu(b1:dm s p u)(b2:dm s q w)(hu:A.units+dep p<cLine):SeqAt.EqAt A s u w (eqT p q):=by
 refine BX b1.M3 (vL p q A _ _ b1 b2 hu).1 λz=>?_
 rw[z]at b1;rw[b1.inj b2];exact fU q
end
noncomputable def dD{α β:Type}(f:α->Option β):List α->Option (List β)
 | []=>some []
 | x::xs=>(f x).bind λy=>(dD f xs).map λys=>y::ys
noncomputable def KJ:Kd->List Tr->Option Tr
 | .au,ts=>some (.au ts)
 | .lst,ts=>some (.lst ts)
 | _,_=>none
def toT(h:List aj):Nat->PV->Option Tr
 | 0,_=>none
 | n+1,p=>match p with
  | .aL=>some .aL
  | .bl b=>some (.bl b)
  | .int i=>some (.int i)
  | .str x=>some (.str x)
  | .fn _=>none
  | p=>(cQ h p).bind λq=>(dD (toT h n) q.2).bind (KJ q.1)
def fL(h:dD f (x::xs)=some ys):∃y r,f x=some y/\dD f xs=some r/\ys=y::r:=by
 obtain⟨y,h1,h2⟩:=aO h;obtain⟨r,h3,h4⟩:=aQ h2;exact⟨y,r,h1,h3,h4.symm⟩
theorem vN(h:List aj):∀(n:Nat) (p:PV) (t:Tr),toT h n p=some t->dep t<=n
 | 0,_,_,e=>by cases e
 | n+1,p,t,e=>by
  have go:((cQ h p).bind λq=>(dD (toT h n) q.2).bind (KJ q.1))=some t->dep t<=n+1:=λe=>by
   obtain⟨q,_,e⟩:=aO e;obtain⟨ts,e1,e2⟩:=aO e;have hd:∀ps ts,dD (toT h n) ps=some ts->kj ts<=n:=by
    intro ps;induction ps with
    | nil=>intro ts z;cases z;simp[kj]
    | cons p ps ih =>
     intro ts z;obtain⟨y,r,h1,h2,rfl⟩:=fL z;have:=vN h n p y h1;have:=ih r h2;simp only[kj];lia
   have:=hd _ _ e1;unfold KJ at e2;split at e2<;>cases e2<;>simp only[dep]<;>lia
  unfold toT at e;split at e<;>first | (cases e;simp[dep];done) | (cases e;done) | exact go e
section
variable {X:Cx} {ah:List (Addr×Obj)} {σ τ:St} {s:Shared} {af H:Hp} {ag F:Fz} {st:b8}
theorem Rep.tree(R:Rep X.K af ag F st τ H)(I:Inv X ah σ H s):∀(n:Nat) (p:PV) (t:Tr) (v:V) (u:Value),toT st.h n p=some t->bj X.K F p v->RelV v u->dm s t u
 | 0,_,_,_,_,e,_,_=>by cases e
 | n+1,p,t,v,u,e,b,r=>by
  have go:((cQ st.h p).bind λq=>(dD (toT st.h n) q.2).bind (KJ q.1))=some t->dm s t u:=λe=>by
   obtain⟨⟨k,ps⟩,e0,e⟩:=aO e;obtain⟨ts,e1,e2⟩:=aO e;obtain⟨a,vs,rfl,h2,h3⟩:=R.at e0 b;have hd:∀ps ts vs us,dD (toT st.h n) ps=some ts->ay X.K F ps vs->Vals vs us->cf s ts us:=by
    intro ps;induction ps with
    | nil=>intro ts vs us z b r;cases z;rw[b.cA]at r;cases r;simp[cf]
    | cons p ps ih =>
     intro ts vs us z b r;obtain⟨y,q,h1,h2,rfl⟩:=fL z;obtain⟨v,w,rfl,b1,b2⟩:=b.bV;cases r with
     | cons ra rr =>
      simp only[cf];exact⟨_,_,rfl,R.tree I n p y v _ h1 b1 ra,ih q w _ h2 b2 rr⟩
   cases r
   match k,e2,h2 with
   | .au,e2,h2 =>
    cases e2;obtain⟨ax,rr,pl,_⟩:=I.tuple h2.2;simp only[dm];exact⟨a,ax,rfl,pl,hd _ _ _ _ e1 h3 rr⟩
   | .lst,e2,h2 =>
    cases e2;obtain⟨ax,rr,pl,_⟩:=I.list (iH.sq h2);simp only[dm];exact⟨a,ax,rfl,pl.isList,hd _ _ _ _ e1 h3 rr⟩
  unfold toT at e;split at e
  ·cases e;rw[cW.mp b]at r;cases r;simp[dm]
  ·cases e;rw[bz.mp b]at r;cases r;simp[dm]
  ·cases e;rw[aE.mp b]at r;obtain⟨t,rfl⟩:=r;simp[dm]
  ·cases e;rw[bN.mp b]at r;obtain⟨t,rfl⟩:=r;simp[dm]
  ·cases e
  ·exact go e
end
def gV:Nat:=1000
def UH(h:List aj)(p q:PV):Option Bool:=(toT h gV p).bind λx=>(toT h gV q).map λy=>eqT x y
def mQ:G2:=λh p q=>(UH h p q).map .bl
def E2:G2:=λh p q=>(UH h p q).map λb=>.bl !b
noncomputable def ej:PV->Bool
 | .aL=>true
 | _=>false
noncomputable def Y2(b:Bool):PV->Option Bool
 | .bl a=>some (a==b)
 | _=>none
def xQ(h:Y2 b p=some c):∃a,p=.bl a/\c=(a==b):=by
 cases p<;>cases h
 exact⟨_,rfl,rfl⟩
def Sy:G2:=λ_ p q=>match q with | .aL=>some (.bl (ej p)) | .bl b=>(Y2 b p).map .bl | _=>none
def Y3(h:List aj)(p:PV)(ps:List PV):Option Bool:=(toT h gV p).bind λx=>(dD (toT h gV) ps).map λys=>ys.any λy=>eqT y x
section
variable {X:Cx}
def xR(e:UH h p q=some b):∃x y,toT h gV p=some x/\toT h gV q=some y/\b=eqT x y:=by
 obtain⟨x,e1,e⟩:=aO e;obtain⟨y,e2,e3⟩:=aQ e;exact⟨x,y,e1,e2,e3.symm⟩
def Pw(hu:X.A.units+1150<cLine):oY X (compareOp .Eq) mQ:=by
 rintro ah s σ H x y v u Q I rx ry ⟨af,ag,F,st,τ,pa,pb,p,e,R,ba,bb,k⟩
 obtain⟨b,e',rfl⟩:=aQ e;obtain⟨ta,tb,e1,e2,rfl⟩:=xR e';have hd:=vN _ _ _ _ e1;exact(vL ta tb X.A v u (R.tree I _ _ _ _ _ e1 ba rx) (R.tree I _ _ _ _ _ e2 bb ry) (by unfold gV at hd;lia)).1 X.prog X.w X.xe _ ⟨.bl _,H,I,rfl,k _ H F R (Gr.refl F) (bz.mpr rfl)⟩
def Px(hu:X.A.units+1150<cLine):oY X (compareOp .NotEq) E2:=by
 rintro ah s σ H x y v u Q I rx ry ⟨af,ag,F,st,τ,pa,pb,p,e,R,ba,bb,k⟩
 obtain⟨b,e',rfl⟩:=aQ e;obtain⟨ta,tb,e1,e2,rfl⟩:=xR e';have hd:=vN _ _ _ _ e1;exact(vL ta tb X.A v u (R.tree I _ _ _ _ _ e1 ba rx) (R.tree I _ _ _ _ _ e2 bb ry) (by unfold gV at hd;lia)).2 X.prog X.w X.xe _ ⟨.bl _,H,I,rfl,k _ H F R (Gr.refl F) (bz.mpr rfl)⟩
def BY{K:W.Frag}(b:bj K F p x):decide (x=.aL)=ej p:=by
 cases p with
 | aL=>rw[cW.mp b];rfl
 | bl _=>rw[bz.mp b];rfl
 | int _=>rw[aE.mp b];rfl
 | str _=>rw[bN.mp b];rfl
 | ref _=>obtain⟨_,_,rfl⟩:=dk.mp b;rfl
 | fn _=>obtain⟨_,rfl,_⟩:=qC.mp b;rfl
 | nd _ _=>obtain⟨_,_,rfl,_⟩:=iI.mp b;rfl
def Py:oY X (compareOp .Is) Sy:=by
 rintro ah s σ H x y v u Q I rx ry ⟨af,ag,F,st,τ,pa,pb,p,e,R,ba,bb,k⟩
 unfold Sy at e;split at e
 ·cases e;exact OO ah s σ H x y v u Q I rx ry ⟨cW.mp bb,k _ H F R (Gr.refl F) (bz.mpr (by rw[BY ba]))⟩
 ·rename_i b;obtain⟨c,e1,rfl⟩:=aQ e;obtain⟨a,rfl,rfl⟩:=xQ e1;rw[bz.mp ba]at rx;rw[bz.mp bb]at ry;cases rx;cases ry;exact wpAny_is_plain rfl ⟨.bl _,H,I,(by cases a<;>cases b<;>rfl),k _ H F R (Gr.refl F) (bz.mpr rfl)⟩
 ·cases e
open Classical in
noncomputable def l8 (s:Shared) (p:Tr) (u:Value):Bool:=if h:∃q,dm s q u then eqT h.choose p else false
def BZ(b:dm s q u):l8 s p u=eqT q p:=by
 have h:∃q,dm s q u:=⟨q,b⟩
 unfold l8;rw[dif_pos h,dm.inj h.choose_spec b]
theorem vO:∀{ts:List Tr} {us:List Value},cf s ts us->us.any (l8 s p)=ts.any λy=>eqT y p
 | [],_,b=>by simp only[cf]at b;subst b;rfl
 | q::ts,_,b=>by
  simp only[cf]at b;obtain⟨u,r,rfl,c1,d1⟩:=b;rw[nc,nc,BZ c1,vO d1]
theorem vP(bp:dm s p w):∀{ts:List Tr} {us:List Value},cf s ts us->A.units+kj ts<cLine->∀u∈us,SeqAt.EqAt A s u w (l8 s p u)
 | [],_,b,_=>λu hu=>by simp only[cf]at b;subst b;cases hu
 | q::ts,_,b,hz=>λu hu=>by
  simp only[cf]at b;obtain⟨u',r,rfl,c1,d1⟩:=b;simp only[kj]at hz;rcases aG.mp hu with rfl | hu
  ·rw[BZ c1];exact Pu c1 bp (by lia)
  ·exact vP bp d1 (by lia) u hu
theorem Rep.trees{st:b8}(R:Rep X.K af ag F st τ H)(I:Inv X ah σ H s)(n:Nat):∀(ps:List PV) (ts:List Tr) (vs:List V) (us:List Value),dD (toT st.h n) ps=some ts->ay X.K F ps vs->Vals vs us->cf s ts us/\kj ts<=n
 | [],ts,vs,us,z,b,r=>by cases z;rw[b.cA]at r;cases r;simp[cf,kj]
 | p::ps,ts,vs,us,z,b,r=>by
  obtain⟨y,q,h1,h2,rfl⟩:=fL z;obtain⟨v,w,rfl,b1,b2⟩:=b.bV;cases r with
  | cons ra rr =>
   obtain⟨h3,h4⟩:=R.trees I n ps q w _ h2 b2 rr;have:=vN _ _ _ _ h1;simp only[kj];exact⟨⟨_,_,rfl,R.tree I n p y v _ h1 b1 ra,h3⟩,by lia⟩
def GD(e:Y3 h p ps=some b):∃x ys,toT h gV p=some x/\dD (toT h gV) ps=some ys/\b=ys.any λy=>eqT y x:=by
 obtain⟨x,e1,e⟩:=aO e;obtain⟨y,e2,e3⟩:=aQ e;exact⟨x,y,e1,e2,e3.symm⟩
def GF(hu:X.A.units+1150<cLine){st:b8}(I:Inv X ah σ H s)(rx:RelV x v)(ry:RelV y u)(R:Rep X.K af ag F st τ H)(ba:bj X.K F pa x)(bb:bj X.K F pb y)
  (es:Gw st.h pb=some ps) (eb:Y3 st.h pa ps=some b) :
  (Q (.bl b) H->wpAny (model X.prog X.w) X.A (compareOp .In v u) (EP X ah σ Q) X.xe s)/\(Q (.bl !b) H->wpAny (model X.prog X.w) X.A (compareOp .NotIn v u) (EP X ah σ Q) X.xe s):=by
 obtain⟨t,ts,e1,e2,rfl⟩:=GD eb;obtain⟨a,vs,rfl,hs,hb⟩:=R.seq es bb;have tp:=R.tree I _ _ _ _ _ e1 ba rx;cases ry;rcases hs with hs | hs
 ·obtain⟨ax,r,pl,_⟩:=I.tuple hs;obtain⟨h1,h2⟩:=R.trees I _ _ _ _ _ e2 hb r;have ml:=λw (hw:w∈ax.toArray)=>vP (A:=X.A.in1) tp h1 (by rw[uW];unfold gV at h2;lia) w (by grind)
  have ea:ax.toArray.any (l8 s t)=ts.any λy=>eqT y t:=by rw[show ax.toArray.any (l8 s t)=ax.any (l8 s t) by simp,vO h1]
  exact⟨λq=>SeqAt.in_tupleAt (l8 s t) pl ml ⟨.bl _,H,I,rfl,by grind⟩,λq=>SeqAt.notIn_tupleAt (l8 s t) pl ml ⟨.bl _,H,I,rfl,by grind⟩⟩
 ·obtain⟨ax,r,pl,_⟩:=I.list hs.sq;obtain⟨h1,h2⟩:=R.trees I _ _ _ _ _ e2 hb r;have ml:=λw (hw:w∈ax.toArray)=>vP (A:=X.A.in1) tp h1 (by rw[uW];unfold gV at h2;lia) w (by grind)
  have ea:ax.toArray.any (l8 s t)=ts.any λy=>eqT y t:=by rw[show ax.toArray.any (l8 s t)=ax.any (l8 s t) by simp,vO h1]
  exact⟨λq=>SeqAt.in_listAt (l8 s t) pl.isList ml ⟨.bl _,H,I,rfl,by grind⟩,λq=>SeqAt.notIn_listAt (l8 s t) pl.isList ml ⟨.bl _,H,I,rfl,by grind⟩⟩
end
section
variable {K:W.Frag} {F:Fz}
def ay.sh{ps:List PV}{vs:List V}{i:Int}{p:PV}(h:ay K F ps vs)(e:L2.sh ps i=some p):∃v,L2.sh vs i=some v/\bj K F p v:=by
 unfold L2.sh at e ⊢;rw[<-h.length];cases z:DI ps.length i with
 | none=>rw[z]at e;cases e
 | some j =>
  rw[z]at e;exact h.get e
def je(xs:List PV)(lo hi:Option Int):List PV:=(xs.drop (HT.ee xs.length 0 lo)).take (HT.ee xs.length xs.length hi-HT.ee xs.length 0 lo)
def ay.M4{ps:List PV}{vs:List V}(h:ay K F ps vs)(lo hi:Option Int):ay K F (je ps lo hi) (xI vs lo hi):=by
 unfold je xI;rw[h.length];exact(h.drop _).take _
def dO{p:PV}{vs:List V}(b:ay K F [p] vs):∃v,vs=[v]/\bj K F p v:=by
 obtain⟨v,r,rfl,c,d⟩:=b.bV;rw[d.cA];exact⟨v,rfl,c⟩
def B3{p q:PV}{vs:List V}(b:ay K F [p,q] vs):∃v w,vs=[v,w]/\bj K F p v/\bj K F q w:=by
 obtain⟨v,r,rfl,c,d⟩:=b.bV;obtain⟨w,rfl,e⟩:=dO d;exact⟨v,w,rfl,c,e⟩
end
def l9{prog:Program}{w:World}{A:Around}{E:Value->Shared->Prop}{s:Shared}{t sl:Addr}{ax:Array Value}{vl vu:Value}{lo hi:Option Int}{Q:Value->Shared->Prop}(ht:IsTup s.heap t ax)(hs:s.heap.IsSliceOf sl vl vu .none)(pl:IsPart vl lo)(pu:IsPart vu hi)
  (h0:HT.ee ax.size 0 lo=0) (h1:HT.ee ax.size ax.size hi=ax.size) (h:Q (.ref t) s):wpAny (model prog w) A (getItem (.ref t) (.ref sl)) Q E s:=by
 obtain⟨os,Jq,Xm,T6⟩:=id hs;have hT:s.TypeIs (.ref sl) "slice":=⟨os,Jq,Xm⟩;unfold getItem
 try with_reducible refine dY ?_
 first | refine ai (ar ?_) | skip
 refine ai (wpAny_sequenceKey ht.typeIs (by decide) ?_)
 refine ai (f9 ht.typeIs mS (fH mS ht.typeIs entry_tuple_getitem ?_ (args_tuple_getitem _ _)));show wpAny _ _ (Builtin.Tuple.tupleItemsOf (.ref t) >>= _) _ _ s;refine ai (tupleItemsOf_ ht (ai (nv hT ?_)));refine ai (HT.il hs pl pu ?_);have hc:(((HT.ee ax.size 0 lo:Nat):Int)==0&&(1:Int)==1&&(HT.ee ax.size ax.size hi-HT.ee ax.size 0 lo)==ax.size)=true:=by
  rw[h0,h1];simp
 show wpAny _ _ (if(((HT.ee ax.size 0 lo:Nat):Int)==0&&1==1&&(HT.ee ax.size ax.size hi-HT.ee ax.size 0 lo)==ax.size)=true then _ else _) _ _ s
 rw[if_pos hc];unfold Builtin.Tuple.tupleIsExact;refine ai (ai (nv ht.typeIs (ar ?_)));exact ai (iE (ar ⟨_,rfl,ar h⟩))
def DQ(h:List aj)(lo hi:Option Int)(p:PV):Option PV:=match cQ h p with
 | some (.lst,ps)=>some (.lst (je ps lo hi))
 | some (.au,ps)=>some (.au (je ps lo hi))
 | _=>none
section
variable {X:Cx} {af:Hp} {ag:Fz} {a b e:Expr} {es:List Expr} {fa fb:Gx PV} {ts:Gx (List PV)} {pos p1 p2:Pos} {lo hi:Option Expr}
def rSl(K:W.Frag):V->Option Int->Option Int->Hp->VK->Prop:=λx lo hi H Q=>∃af ag F st τ pa p,DQ st.h lo hi pa=some p/\Rep K af ag F st τ H/\bj K F pa x/\∀v H' F',Rep K af ag F' st τ H'->Gr F F'->bj K F' p v->Q v H'
def slT:Xn X (rSl X.K):=by
 rintro ah s σ H x v vl vu lo hi sl Q I rx hs pl pu ⟨af,ag,F,st,τ,pa,p,e,R,ba,k⟩
 unfold DQ at e;split at e
 ·rename_i z;cases e;obtain⟨a,vs,rfl,ha,gA⟩:=R.at z ba;refine Km ah s σ H _ v vl vu lo hi sl Q I rx hs pl pu ⟨a,vs,rfl,iH.sq ha,λq hq=>?_⟩
  obtain⟨R2,s2⟩:=R.laid (.lst (xI vs lo hi)) hq;exact k _ _ _ R2 s2 (dw.mpr ⟨q,_,rfl,iH.of aB,(gA.M4 lo hi).mono s2⟩)
 ·rename_i ps z;cases e;cases pa with
  | nd kk pp =>
   cases z;obtain⟨a,vs,rfl,ha,gA⟩:=bO.mp ba;by_cases hw:HT.ee vs.length 0 lo=0/\HT.ee vs.length vs.length hi=vs.length
   ·cases rx;obtain⟨ax,r,ht,hz⟩:=I.tuple (cP R.sub ha);have eX:ax.toArray.size=vs.length:=by rw[cx];exact r.length.symm
    refine⟨"tuple",_,mS.lookup,ht.typeIs,?_⟩;refine l9 ht hs pl pu (by grind) (by grind) ⟨.ref a,H,I,rfl,k _ H F R (Gr.refl F) ?_⟩
    have hc:je ps lo hi=ps:=by
     unfold je;rw[gA.length,hw.1,hw.2,List.drop_zero,Nat.sub_zero,<-gA.length,List.take_length]
    rw[hc];exact ba
   ·refine O0 ah s σ H _ v vl vu lo hi sl Q I rx hs pl pu ⟨a,vs,rfl,cP R.sub ha,hw,λq hq=>?_⟩
    obtain⟨R2,s2⟩:=R.laid (.au (xI vs lo hi)) hq;exact k _ _ _ R2 s2 (bO.mpr ⟨q,_,rfl,iG.of aB,(gA.M4 lo hi).mono s2⟩)
  | ref n =>
   obtain⟨c,e1,e2⟩:=aO z;obtain⟨hl,e3⟩:=aD e2;have hk:c.k=.au:=by grind
   unfold live at hl;rw[hk]at hl;cases hl
  | _=>cases z
 ·cases e
abbrev KL(X:Cx)(af:Hp)(ag:Fz)(f:Gx (Option Int)):TO:=tX X af ag (λ_ a b=>a=b) f
def _root_.L2.PO.imp{X:Cx}{e:Option Expr}{t t':TO}(h:PO X e t)(hi:∀σ H Q,t' σ H Q->t σ H Q):PO X e t':=λah s σ H Q I hw=>h ah s σ H Q I (hi _ _ _ hw)
noncomputable def nF:PV->Option Int | .int i=>some i | _=>none
def fM{p:PV}{i:Int}(h:nF p=some i):p=.int i:=by
 cases p<;>first | (cases h;rfl) | cases h
def GG(fe:Gx PV):Gx (Option Int):=bnd fe λp=>jd ((nF p).map some)
def Pz:PO X none (KL X af ag (cD none)):=Kh.imp λσ H Q h=>vJ h λ_=>rfl
def PC(h:PE X e (tE X af ag fa)):PO X (some e) (KL X af ag (GG fa)):=(Ki h).imp λσ H Q ⟨F,st,R,h⟩=>⟨F,st,R,h.bnd λp v F1 st1 H1 R1 g1 b1 h1=>by
 obtain⟨o,e,z⟩:=h1.jd;obtain⟨i,e1,rfl⟩:=aQ e;rw[fM e1]at b1;exact⟨i,aE.mp b1,z _ H1 F1 R1 (Gr.refl _) rfl⟩⟩
def cutE(fa:Gx PV)(fl fh:Gx (Option Int)):Gx PV:=bnd fa λp=>bnd fl λl=>bnd fh λr=>hp λh=>DQ h l r p
def UI{fl fh:Gx (Option Int)}(ha:PE X e (tE X af ag fa))(hl:PO X lo (KL X af ag fl))(hh:PO X hi (KL X af ag fh)):PE X (.Subscript e (.Slice lo hi none p2) pos) (tE X af ag (cutE fa fl fh)):=(Gf slT ha hl hh).imp λσ H Q ⟨F,st,R,h⟩ =>
 ⟨F,st,R,h.bnd λp v F1 st1 H1 R1 g1 b1 h1=>⟨F1,st1,R1,h1.bnd λl l' F2 dE H2 R2 g2 b2 h2=>⟨F2,dE,R2,h2.bnd λr r' F3 w9 H3 R3 g3 b3 h3=>by
  cases b2;cases b3;obtain⟨o,e,z⟩:=h3.hp;exact⟨af,ag,F3,w9,σ,p,o,e,R3,b1.mono (g2.trans g3),z⟩⟩⟩⟩
abbrev GC:=List aj->List PV->Option PV
def rC(K:W.Frag)(g:GC):List V->Hp->VK->Prop:=λxs H Q=>∃af ag F st τ ps p,g st.h ps=some p/\Rep K af ag F st τ H/\ay K F ps xs/\∀v H' F',Rep K af ag F' st τ H'->Gr F F'->bj K F' p v->Q v H'
abbrev GH(X:Cx)(f:Value)(g:GC):Prop:=kz X f (rC X.K g)
def KN(g:GC)(ts:Gx (List PV)):Gx PV:=bnd ts λps=>hp λh=>g h ps
def mh{g:GC}{σ:St}{H:Hp}{Q:VK}(h:tE X af ag (KN g ts) σ H Q):YI (rC X.K g) (tA X af ag ts) σ H Q:=by
 obtain⟨F,st,R,h⟩:=h;refine⟨F,st,R,h.bnd λps vs F1 st1 H1 R1 g1 b1 h1=>?_⟩
 obtain⟨o,e,z⟩:=h1.hp;exact⟨af,ag,F1,st1,σ,ps,o,e,R1,b1,z⟩
def UJ(h:List aj)(p:PV):Option Nat:=match cQ h p with
 | some (.au,ps)=>some ps.length
 | some (.lst,ps)=>some ps.length
 | some (.eS _ ks,_)=>some ks.length
 | _=>none
def ki:GC:=λh ps=>match ps with
 | [.str z]=>if z.length<=ic then some (.int z.length)else none
 | [p]=>(UJ h p).map λn=>.int n
 | _=>none
def DR:GC:=λh ps=>match ps with
 | [.nd .au qs]=>some (.au qs)
 | [p]=>(ox h p).map λqs=>.au qs
 | _=>none
noncomputable def GI:GC:=λ_ ps=>match ps with
 | [.int i]=>some (.int i)
 | [.bl b]=>some (.int (if b then 1 else 0))
 | _=>none
noncomputable def KO:GC:=λ_ ps=>match ps with
 | [.int i]=>if 0<=i/\i<1000 then some (.str (toString i))else none
 | _=>none
def GJ(ps:List PV):Option (List Int):=dD nF ps
def KP:GC:=λh ps=>match ps with
 | [p]=>(ox h p).bind λqs=>(GJ qs).map λns=>.int ns.sum
 | _=>none
def xS{A:Around}{E:Value->Shared->Prop}{s:Shared}{d:Addr}{o:Obj}{es:Array DictEntry}{ep n:Nat}{Q:Value->Shared->Prop}(hd:(d==sysModules)=false)(ho:s.heap.get? d=some o)(hc:o.ExactDict)(AB:o.data=.dict es ep)(hn:es.size=n)(UK:(n:Int)<2^63)
  (h:Q (.int n (s.toks+1)) {s with toks:=s.toks+1+1}):wpAny (model X.prog X.w) A (call (.builtin "len") [.ref d]) Q E s:=by
 have ty:s.TypeIs (.ref d) "dict":=⟨o,ho,hc.1⟩;have hm:MeetsIn X.prog X.w (Builtin.«dict.__len__» ⟨[.ref d],[]⟩) (λ_ R s'=>s'.heap.get? d=some o/\R (.ok (.ret (.int n s'.toks))) {s' with toks:=s'.toks+1}):=.of_wp <| by
  rintro A R s' ⟨mP,hR⟩
  show wpAny _ _ (dictSize d >>= _) _ _ s';refine ai (ai (wpAny_dictEntries mP AB (ar ?_)));refine ai (wpAny_pendingCount_other hd ?_);refine wpAny_ret_mkInt ?_;rw[gE,hn];exact hR
 refine Calls.call_function_entry kind_len plain_len entry_len (args_len1 _) ?_;refine ai (ar ?_);refine ai (f9 ty F.slot_dict_len (call_meetsIn F.slot_dict_len ty F.entry_dict_len (F.args_dict_len_1 _) hm ⟨ho,?_⟩));show wpAny _ _ _ _ _ {s with toks:=s.toks+1}
 refine ai (dY (ar ?_));refine ai (p6 ?_);show wpAny _ _ (if((n:Nat):Int)>=2^63 then _ else _) _ _ _
 rw[if_neg (by lia)]
 exact ai (wpAny_mkInt (ar ⟨_,rfl,h⟩))
def B4{n:Nat}(h:n<=sizeLine):(n:Int)<2^63:=by
 have h1:n<=2^62:=aR h (by decide)
 have h62:2^62=4611686018427387904:=by decide
 lia
def KQ{ah:List (Addr×Obj)}{s:Shared}{σ:St}{H:Hp}{a:Addr}{t:Bool}{ks:List (bP×List bP)}{vs:List V}{us:List Value}{Q:VK}{F:Hp}(I:Inv X ah σ H s)(rs:Vals [V.ref a] us)(h:kU X.K F H a false (.eS t ks) vs)(q:Q (.int ks.length) H):wpAny (model X.prog X.w) X.A (call (.builtin "len") us) (λu s'=>∃v H',Inv X ah σ H' s'/\RelV v u/\Q v H') X.xe s:=by
 obtain⟨u,rfl,ru⟩:=jF rs;cases ru;cases t with
 | false =>
  obtain⟨kvs,h1,h2,h3⟩:=h;obtain⟨z,y,ws,hk,o,es,ep,g1,g2,g3,g4,g5,g6⟩:=(I.hok a _ h1);have hl:ks.length=kvs.length:=by grind
  have hn:es.size=ks.length:=by rw[hl,nj hk,<-g5.length,mW]
  exact xS y g1 g2 g3 hn (B4 (by grind)) ⟨.int ks.length,H,I.tok _,⟨_,rfl⟩,q⟩
 | true =>
  obtain⟨xs,h1,_,h2,_⟩:=h;obtain⟨z,y,o,es,ep,g1,g2,g3,g4,g5⟩:=(I.hok a _ h1);have hl:ks.length=xs.length:=by grind
  exact xS y g1 g2 g3 (by rw[<-mW,g4,aT,hl]) (B4 (by grind)) ⟨.int ks.length,H,I.tok _,⟨_,rfl⟩,q⟩
def DS:GH X (.builtin "len") ki:=by
 rintro ah s σ H xs us Q I rs ⟨af,ag,F,st,τ,ps,p,e,R,bs,k⟩
 unfold ki at e;split at e
 ·obtain⟨hz,rfl⟩:=aD e;obtain⟨v,rfl,b⟩:=dO bs;rw[bN.mp b]at rs;exact vF ah s σ H _ us Q I rs ⟨_,rfl,d7 hz,k _ H F R (Gr.refl F) (aE.mpr rfl)⟩
 ·obtain⟨n,e1,rfl⟩:=aQ e;obtain⟨v,rfl,b⟩:=dO bs;unfold UJ at e1;split at e1
  ·rename_i z;cases e1;obtain⟨a,vs,rfl,ha,gA⟩:=R.at z b;exact lQ ah s σ H _ us Q I rs ⟨a,vs,rfl,.inr ha.2,k _ H F R (Gr.refl F) (aE.mpr (by rw[gA.length]))⟩
  ·rename_i z;cases e1;obtain⟨a,vs,rfl,ha,gA⟩:=R.at z b;exact lQ ah s σ H _ us Q I rs ⟨a,vs,rfl,.inl (iH.sq ha),k _ H F R (Gr.refl F) (aE.mpr (by rw[gA.length]))⟩
  ·rename_i z;cases e1;obtain⟨a,vs,rfl,ha,gA⟩:=R.at z b;exact KQ I rs ha (k _ H F R (Gr.refl F) (aE.mpr rfl))
  ·cases e1
 ·cases e
def DT:GH X (.type "tuple") DR:=by
 rintro ah s σ H xs us Q I rs ⟨af,ag,F,st,τ,ps,p,e,R,bs,k⟩
 unfold DR at e;split at e
 ·cases e;obtain⟨v,rfl,b⟩:=dO bs;obtain⟨a,vs,rfl,ha,gA⟩:=bO.mp b;exact kA ah s σ H _ us Q I rs ⟨a,vs,rfl,.inr ⟨cP R.sub ha,k _ H F R (Gr.refl F) b⟩⟩
 ·obtain⟨qs,e1,rfl⟩:=aQ e;obtain⟨v,rfl,b⟩:=dO bs;obtain⟨a,vs,rfl,ha,gA⟩:=R.at (eP e1) b;refine kA ah s σ H _ us Q I rs ⟨a,vs,rfl,.inl ⟨iH.sq ha,λq hq=>?_⟩⟩
  obtain⟨R2,s2⟩:=R.laid (.au vs) hq;exact k _ _ _ R2 s2 (bO.mpr ⟨q,_,rfl,iG.of aB,gA.mono s2⟩)
 ·cases e
def DU:GH X (.type "int") GI:=by
 rintro ah s σ H xs us Q I rs ⟨af,ag,F,st,τ,ps,p,e,R,bs,k⟩
 unfold GI at e;split at e
 ·cases e;obtain⟨v,rfl,b⟩:=dO bs;rw[aE.mp b]at rs;exact tj ah s σ H _ us Q I rs (.inl ⟨_,rfl,k _ H F R (Gr.refl F) (aE.mpr rfl)⟩)
 ·cases e;obtain⟨v,rfl,b⟩:=dO bs;rw[bz.mp b]at rs;exact tj ah s σ H _ us Q I rs (.inr ⟨_,rfl,k _ H F R (Gr.refl F) (aE.mpr rfl)⟩)
 ·cases e
def DV:GH X (.type "str") KO:=by
 rintro ah s σ H xs us Q I rs ⟨af,ag,F,st,τ,ps,p,e,R,bs,k⟩
 unfold KO at e;split at e
 ·rename_i i;obtain⟨⟨h0,h1⟩,rfl⟩:=aD e;obtain⟨v,rfl,b⟩:=dO bs;rw[aE.mp b]at rs;exact vz ah s σ H _ us Q I rs ⟨i,rfl,(by
   by_cases h:i.natAbs=0
   ·simp_all
   ·exact pG (Nat.log2_le_self _) (by lia)),k _ H F R (Gr.refl F) (bN.mpr rfl)⟩
 ·cases e
theorem xT{K:W.Frag}{F:Fz}:∀{ps:List PV} {ns:List Int} {vs:List V},GJ ps=some ns->ay K F ps vs->vs=ns.map V.int
 | [],ns,vs,h,b=>by cases h;exact b.cA
 | p::r,ns,vs,h,b=>by
  obtain⟨i,ms,h1,h2,rfl⟩:=fL h;obtain⟨v,vr,rfl,c,d⟩:=b.bV;rw[fM h1]at c;rw[aE.mp c,xT h2 d];rfl
def KR{ah:List (Addr×Obj)}{σ:St}{H:Hp}{s:Shared}{F:Fz}(I:Inv X ah σ H s){a:Addr}{vs:List V}{ps:List PV}{ns:List Int}(hn:GJ ps=some ns)(ha:iH X.K H a vs)(gA:ay X.K F ps vs) :
  ∃xs:Array (Int×Tok),s.heap.IsList a (intItems xs)/\ns=xs.toList.map (·.1):=by
 obtain⟨ax,r,pl,_⟩:=I.list ha.sq;have ev:=xT hn gA;subst ev;have hi:=Ax r;obtain⟨xs,ex⟩:=hi.allInts.items;exact⟨xs,by rw[<-ex];exact pl.isList,by rw[<-hi.numsOf,<-nums_intItems,<-ex]⟩
def DW(hc:X.A.handled=none):GH X (.builtin "sum") KP:=by
 rintro ah s σ H xs us Q I rs ⟨af,ag,F,st,τ,ps,p,e,R,bs,k⟩
 unfold KP at e;split at e
 ·obtain⟨qs,e1,e⟩:=aO e;obtain⟨ns,e2,rfl⟩:=aQ e;obtain⟨v,rfl,b⟩:=dO bs;obtain⟨a,vs,rfl,ha,gA⟩:=R.at (eP e1) b;obtain⟨xs,hl,hn⟩:=KR I e2 ha gA;obtain⟨u,rfl,ru⟩:=jF rs;cases ru;refine sum_intListG hc hl λh' tk t' hk=>⟨.int ns.sum,H,I.kept hk,⟨t',?_⟩,k _ H F R (Gr.refl F) (aE.mpr rfl)⟩
  rw[preSum_eq,zu (by simp),hn]
 ·cases e
inductive Ty where
 | int | str | bool | tuple | list
noncomputable def Ty.nm:Ty->String
 | .int=>"int" | .str=>"str" | .bool=>"bool" | .tuple=>"tuple" | .list=>"list"
def UL(h:List aj):PV->Option String
 | .aL=>some "NoneType"
 | .bl _=>some "bool"
 | .int _=>some "int"
 | .str _=>some "str"
 | p=>match cQ h p with
  | some (.au,_)=>some "tuple"
  | some (.lst,_)=>some "list"
  | _=>none
def PD(t:Ty)(y:String):Bool:=y==t.nm || (t.nm=="int"&&y=="bool")
def Xs(t:Ty)(fa:Gx PV):Gx PV:=bnd fa λp=>hp λh=>(UL h p).map λy=>.bl (PD t y)
def rIs(K:W.Frag)(t:Ty):List V->Hp->VK->Prop:=λxs H Q=>∃af ag F st τ p x y,xs=[x,.ty t.nm]/\Rep K af ag F st τ H/\bj K F p x/\UL st.h p=some y/\Q (.bl (PD t y)) H
def KS(t:Ty):kz X (.builtin "isinstance") (rIs X.K t):=by
 rintro ah s σ H xs us Q I rs ⟨af,ag,F,st,τ,p,x,y,ex,R,b,ey,q⟩
 subst ex;obtain⟨u,w,rfl,ru,Kl⟩:=BM rs;cases Kl;have iJ:∀tk,EP X ah σ Q (.bool (PD t y)) {s with toks:=tk}:=λtk=>⟨.bl _,H,I.tok tk,rfl,q⟩
 have more:(match cQ st.h p with
  | some (.au,_)=>some "tuple"
  | some (.lst,_)=>some "list"
  | _=>none)=some y->wpAny (model X.prog X.w) X.A (call (.builtin "isinstance") [u,.type t.nm]) (EP X ah σ Q) X.xe s:=λey=>by
  split at ey
  ·rename_i z;cases ey;obtain⟨a,vs,rfl,h2,h3⟩:=R.at z b;cases ru;obtain⟨ax,_,⟨o,h1,h2,_⟩,_⟩:=I.tuple h2.2;exact W.kia_one W.kitx_tuple I.oj ⟨o,h1,h2⟩ (by cases t<;>kernel_rfl) (λz=>nomatch z) iJ
  ·rename_i z;cases ey;obtain⟨a,vs,rfl,h2,h3⟩:=R.at z b;cases ru;obtain⟨ax,n,_,h1,_⟩:=I.lX h2;exact W.kia_one W.kitx_list I.oj ⟨_,h1,rfl⟩ (by cases t<;>kernel_rfl) (λz=>nomatch z) iJ
  ·cases ey
 cases p with
 | aL =>
  cases ey;rw[cW.mp b]at ru;cases ru;exact W.kia_one W.kitx_none I.oj True.intro (by cases t<;>kernel_rfl) (λz=>nomatch z) iJ
 | bl y =>
  cases ey;rw[bz.mp b]at ru;cases ru;exact W.kia_one W.kitx_bool I.oj True.intro (by cases t<;>kernel_rfl) (λz=>nomatch z) iJ
 | int i =>
  cases ey;rw[aE.mp b]at ru;obtain⟨tk,rfl⟩:=ru;exact W.kia_one W.kitx_int I.oj True.intro (by cases t<;>kernel_rfl) (λz=>nomatch z) iJ
 | str y =>
  cases ey;rw[bN.mp b]at ru;obtain⟨tk,rfl⟩:=ru;exact W.kia_one W.kitx_str I.oj True.intro (by cases t<;>kernel_rfl) (λz=>nomatch z) iJ
 | ref n=>exact more ey
 | fn x=>exact more ey
 | nd k ps=>exact more ey
def oA:bootBuiltins "isinstance"=some (.builtin "isinstance"):=by kernel_rfl
def iN(t:Ty):bootBuiltins (Str.ofString t.nm)=some (.type t.nm):=by cases t<;>kernel_rfl
noncomputable def tys:List Ty:=[.int,.str,.bool,.tuple,.list]
def B5(x:Str):Option Ty:=tys.find? λt=>x==Str.ofString t.nm
def GL{x:Str}{t:Ty}(h:B5 x=some t):x=Str.ofString t.nm:=by
 have:=List.find?_some h;exact aV this
def Y4{x:Str}{t:Ty}(ht:B5 x=some t)(hg:Gl X "isinstance")(hm:X.mg "isinstance"=none)(xb:Gl X x)(Xu:X.mg x=none)(ha:PE X a (tE X af ag fa))(hs:∀es,starEach (a::es) X.env=(false,eval a X.env)::starEach es X.env) :
  PE X (.Call (.Name "isinstance" p1) [a,.Name x p2] [] pos) (tE X af ag (Xs t fa)):=by
 have hx:=GL ht;subst hx;refine(qw (KS t) hg hm oA (gY ha (gY (JR (v:=.ty t.nm) xb Xu (iN t) rfl (by cases t<;>decide) (by cases t<;>decide)) qu rfl) (hs _)) (by decide) (by decide) (hs _)).imp λσ H Q ⟨F,st,R,h⟩=>?_
 refine⟨F,st,R,h.bnd λp v F1 st1 H1 R1 g1 b1 h1=>?_⟩
 obtain⟨o,e,z⟩:=h1.hp;obtain⟨y,e1,rfl⟩:=aQ e;exact⟨af,ag,F1,st1,σ,p,v,y,rfl,R1,b1,e1,z _ H1 F1 R1 (Gr.refl _) (bz.mpr rfl)⟩
def PF(fa:Gx PV):Gx PV:=bnd fa λp=>jd ((nF p).map λi=>.int (-i))
def UM(ha:PE X a (tE X af ag fa)):PE X (.UnaryOp .USub a pos) (tE X af ag (PF fa)):=(TL ON ha).imp λσ H Q ⟨F,st,R,h⟩=>⟨F,st,R,h.bnd λp v F1 st1 H1 R1 g1 b1 h1=>by
 obtain⟨o,e,z⟩:=h1.jd;obtain⟨i,e1,rfl⟩:=aQ e;rw[fM e1]at b1;exact⟨i,aE.mp b1,z _ H1 F1 R1 (Gr.refl _) (aE.mpr rfl)⟩⟩
end
noncomputable def xU(a m:Int)(n:Nat):List Nat:=sliceRange (sliceBounds (some a) none (some m) n).1 (sliceBounds (some a) none (some m) n).2.1 (sliceBounds (some a) none (some m) n).2.2
def xV{α:Type}(a m:Int)(ps:List α):List α:=(xU a m ps.length).filterMap (ps[·]?)
def UN(p:PV)(l m:Option Int):Option PV:=match p,l,m with
 | .nd .lst ps,some a,some b=>if(b != 0&&decide ((xU a b ps.length).length<=ic))=true then some (.lst (xV a b ps))else none
 | _,_,_=>none
def PH(fa:Gx PV)(fl fm:Gx (Option Int)):Gx PV:=bnd fa λp=>bnd fl λl=>bnd fm λm=>jd (UN p l m)
theorem nG{xs:List V}{us:List Value}(r:Vals xs us):∀is:List Nat,Vals (is.filterMap (xs[·]?)) (is.filterMap (us[·]?))
 | []=>.nil
 | i::is=>by
  cases h:xs[i]? with
  | none =>
   rw[uG h,uG (r.none_of h)];exact nG r is
  | some x =>
   obtain⟨u,h1,h2⟩:=r.get h;rw[uH h,uH h1];exact .cons h2 (nG r is)
theorem nH{K:W.Frag}{F:Fz}{ps:List PV}{vs:List V}(r:ay K F ps vs):∀is:List Nat,ay K F (is.filterMap (ps[·]?)) (is.filterMap (vs[·]?))
 | []=>.nil
 | i::is=>by
  cases h:ps[i]? with
  | none =>
   have h2:vs[i]?=none:=by
    have:=r.length;have:=ia.mp h;exact ia.mpr (by lia)
   rw[uG h,uG h2];exact nH r is
  | some p =>
   obtain⟨v,h1,h2⟩:=r.get h;rw[uH h,uH h1];exact .cons h2 (nH r is)
section
variable {X:Cx} {af:Hp} {ag:Fz} {e:Expr} {fa:Gx PV} {pos p2:Pos} {lo:Option Expr} {hi:Expr}
def rSp(K:W.Frag):V->Option Int->Option Int->Hp->VK->Prop:=λx l m H Q=>∃c a b vs,x=.ref c/\l=some a/\m=some b/\iH K H c vs/\b≠0/\(xU a b vs.length).length<=ic/\∀q,H q=none->Q (.ref q) (cU H q (.lst (xV a b vs)))
def PJ{te:TE}{tl th:TO}(he:PE X e te)(hl:PO X lo tl)(hu:PO X (some hi) th):PE X (.Subscript e (.Slice lo none (some hi) p2) pos) (tSl (rSp X.K) te tl th):=by
 intro ah s σ H Q I h;refine Subscript_ (thn (he ah s σ H _ I h) λv s1 ⟨x,H1,I1,r1,q1⟩=>?_)
 refine wpAny_Slice (thn (hl ah s1 σ H1 _ I1 q1) λvl s2 ⟨l,H2,I2,pl,q2⟩=>?_)
 rw[evalPart_none];refine ar ?_;refine thn (hu ah s2 σ H2 _ I2 q2) λvu s3 ⟨u,H3,I3,pu,q3⟩=>?_
 have I4:Inv X ah σ H3 {s3 with heap:=s3.heap.push {cls:=.type "slice",data:=.fields #[vl,.none,vu]}}:=I3.kept λb ob q=>aJ _ q
 show wpAny (model X.prog X.w) X.A (subscriptTail e (.Slice lo none (some hi) p2) v (.ref s3.heap.objs.size)) (EP X ah σ Q) X.xe {s3 with heap:=s3.heap.push {cls:=.type "slice",data:=.fields #[vl,.none,vu]}}
 obtain⟨c,a,b,vs,rfl,rfl,rfl,hs,hb0,qH,q⟩:=q3;cases r1;obtain⟨ax,r,ht,hz⟩:=I4.list (iH.sq hs);have eX:ax.toArray.size=vs.length:=by rw[cx];exact r.length.symm
 have hg:wpAny (model X.prog X.w) X.A (getItem (.ref c) (.ref s3.heap.objs.size)) (EP X ah σ Q) X.xe {s3 with heap:=s3.heap.push {cls:=.type "slice",data:=.fields #[vl,.none,vu]}}:=by
  refine wpAny_getItem_list_slice ht.isList (Heap.IsSliceOf.new ..) pl .none pu (by simpa using hb0) ?_ (by rw[eX];exact hz)
  have UO:slicePick ax.toArray (some a) none (some b)=((xU a b vs.length).filterMap (ax[·]?)).toArray:=by
   unfold slicePick xU;rw[eX];refine dH (λf=>(List.filterMap f _).toArray) (funext λi=>?_)
   rw[List.getElem?_toArray]
  rw[UO];refine⟨.ref _,_,I4.laid (o:=.lst (xV a b vs)) (λb ob q=>aJ _ q) (aA _) ?_,rfl,q _ (I4.hok.fresh (aA _))⟩
  exact⟨aR (List.length_filterMap_le _ _) (aR qH (by decide)),_,0,nG r _,bL _ rfl⟩
 exact nz (ops:=[.ref c,.ref s3.heap.objs.size]) ht.isList.typeIs slot_list_getitem.lookup hg (by with_unfolding_all rfl)
def UP{fl fh:Gx (Option Int)}(ha:PE X e (tE X af ag fa))(hl:PO X lo (KL X af ag fl))(hh:PO X (some hi) (KL X af ag fh)):PE X (.Subscript e (.Slice lo none (some hi) p2) pos) (tE X af ag (PH fa fl fh)):=(PJ ha hl hh).imp λσ H Q ⟨F,st,R,h⟩ =>
 ⟨F,st,R,h.bnd λp v F1 st1 H1 R1 g1 b1 h1=>⟨F1,st1,R1,h1.bnd λl l' F2 dE H2 R2 g2 b2 h2=>⟨F2,dE,R2,h2.bnd λr r' F3 w9 H3 R3 g3 b3 h3=>by
  cases b2;cases b3;obtain⟨o,e,z⟩:=h3.jd;unfold UN at e;split at e
  ·rename_i ps a b;obtain⟨hc,rfl⟩:=aD e;simp only[aH,bne_iff_ne,uS]at hc;obtain⟨ad,vs,rfl,hs,hb⟩:=dw.mp (b1.mono (g2.trans g3));rw[hb.length]at hc;refine⟨ad,a,b,vs,rfl,rfl,rfl,jG R3.sub hs,hc.1,hc.2,λq hq=>?_⟩
   obtain⟨R4,s4⟩:=R3.laid (.lst (xV a b vs)) hq;refine z _ _ _ R4 s4 (dw.mpr ⟨q,_,rfl,iH.of aB,?_⟩);unfold xV;rw[hb.length];exact(nH hb _).mono s4
  ·cases e⟩⟩⟩
end
noncomputable def DX:PV->Option bP
 | .int i=>some (.inl i)
 | .str x=>some (.inr x)
 | _=>none
def fV:Bool->PV->Option (bP×List bP)
 | false,p=>(DX p).map λk=>(k,[])
 | true,.nd .au [p,.nd .au ps]=>if ps.length<1000 then(DX p).bind λk=>(dD DX ps).map λr=>(k,r)else none
 | true,_=>none
noncomputable def mi(k:bP×List bP)(ks:List (bP×List bP)):Bool:=ks.any λj=>decide (j=k)
noncomputable def gZ(k:bP×List bP):List (bP×List bP)->List PV->Option PV
 | j::ks,p::ps=>if j=k then some p else gZ k ks ps
 | _,_=>none
noncomputable def sJ(k:bP×List bP)(q:PV):List (bP×List bP)->List PV->List PV
 | j::ks,p::ps=>(if j=k then q else p)::sJ k q ks ps
 | _,ps=>ps
def qM:sJ k q [] ps=ps:=by cases ps<;>rfl
def iO(t:Bool)(k:bP×List bP)(q:PV)(ks:List (bP×List bP))(ps:List PV):aj:=if mi k ks=true then⟨.eS t ks,sJ k q ks ps⟩else⟨.eS t (ks++[k]),ps++[q]⟩
section
variable {K:W.Frag} {F:Fz}
def mj(h:DX p=some k)(b:bj K F p v):v=kV k:=by
 cases p<;>cases h
 ·exact aE.mp b
 ·exact bN.mp b
theorem tO:∀{ps:List PV} {ks:List bP} {vs:List V},dD DX ps=some ks->ay K F ps vs->vs=ks.map kV
 | [],_,_,h,b=>by cases h;exact b.cA
 | _::_,_,_,h,b=>by
  obtain⟨k,r,h1,h2,rfl⟩:=fL h;obtain⟨v,w,rfl,b1,b2⟩:=b.bV;rw[mj h1 b1,tO h2 b2];rfl
def mn(h:fV false p=some k)(b:bj K F p v):∃j,k=(j,[])/\v=kV j:=by
 obtain⟨j,e,rfl⟩:=aQ h;exact⟨j,rfl,mj e b⟩
def jJ(h:fV true p=some k)(b:bj K F p v):∃c,v=.ref c/\EV K F.F c k:=by
 unfold fV at h;split at h
 ·grind
 ·obtain⟨_,h⟩:=bS h;obtain⟨i,h1,h⟩:=aO h;obtain⟨r,h2,rfl⟩:=aQ h;obtain⟨c,vs,rfl,hs,hb⟩:=bO.mp b;obtain⟨v1,w1,rfl,b1,b2⟩:=hb.bV;obtain⟨v2,w2,rfl,b2,b3⟩:=b2.bV;obtain⟨d,us,rfl,DF,hb2⟩:=bO.mp b2;rw[b3.cA,mj h1 b1]at hs;rw[tO h2 hb2]at DF;exact⟨c,rfl,d,hs,DF⟩
 ·cases h
theorem vQ(j:bP):∀kvs:List (bP×V),mi (j,[]) (kvs.map λy=>(y.1,[]))=(ot kvs j).isSome
 | []=>rfl
 | (i,v)::r=>by
  have ih:=vQ j r;unfold mi at ih ⊢;rw[aP,nc,ih];by_cases h:i=j
  ·subst h;rw[lU rfl];simp
  ·rw[lV h];simp[h]
theorem B6:∀{kvs:List (bP×V)} {ps:List PV} {p:PV},gZ (j,[]) (kvs.map λy=>(y.1,[])) ps=some p->ay K F ps (kvs.map (·.2))->∃v,ot kvs j=some v/\bj K F p v
 | [],_,_,h,_=>by cases h
 | (i,v)::r,[],_,h,_=>by cases h
 | (i,v)::r,q::ps,p,h,b=>by
  obtain⟨v',w,e,b1,b2⟩:=b.bV;cases e;have h:(if(i,([]:List bP))=(j,[])then some q else gZ (j,[]) (r.map λy=>(y.1,[])) ps)=some p:=h
  by_cases hi:i=j
  ·subst hi;rw[if_pos rfl]at h;cases h;exact⟨v,lU rfl,b1⟩
  ·rw[if_neg (by grind)]at h
   rw[lV hi];exact B6 h b2
def GN(bq:bj K F q v)(b:ay K F ps (kvs.map (·.2))) :
  ∃mR vG,iO false (j,[]) q (kvs.map λy=>(y.1,[])) ps=⟨.eS false mR,vG⟩/\(putK kvs j v).map (λy=>(y.1,[]))=mR/\ay K F vG ((putK kvs j v).map (·.2)):=by
 unfold iO putK;rw[vQ,xM];cases e:(ot kvs j).isSome with
 | false=>exact⟨_,_,rfl,by simp,by simpa using b.append (.cons bq .nil)⟩
 | true =>
  refine⟨_,_,rfl,?_,?_⟩
  ·rw[if_pos rfl,jw];exact List.map_congr_left λy _=>by grind
  ·rw[if_pos rfl];clear e;induction kvs generalizing ps with
   | nil=>rw[dZ,qM];exact b
   | cons y r ih =>
    cases ps with
    | nil=>have:=b.length;simp at this
    | cons p ps =>
     obtain⟨v',w,e,b1,b2⟩:=b.bV;simp only[aP,zS]at e;obtain⟨rfl,rfl⟩:=e;have ih:=ih b2;by_cases hy:y.1=j
     ·simpa only[aP,sJ,hy,eI]using ay.cons bq ih
     ·have:¬(y.1,([]:List bP))=(j,[]):=by grind
      simpa only[aP,sJ,hy,this,cK]using ay.cons b1 ih
def AD(k:bP×List bP)(xs:List ((bP×List bP)×Addr×Value)):mi k (xs.map (·.1))=(atKey xs k).isSome:=(DN xs k).symm
theorem B7:∀{xs:List ((bP×List bP)×Addr×Value)} {ps:List PV} {vs:List V} {p:PV},gZ k (xs.map (·.1)) ps=some p->ay K F ps vs->Vals vs (xs.map (·.2.2))->∃a r v,atKey xs k=some (a,r)/\RelV v r/\bj K F p v
 | [],_,_,_,h,_,_=>by cases h
 | x::r,[],_,_,h,_,_=>by cases h
 | x::r,q::ps,vs,p,h,b,rv=>by
  obtain⟨v',w,rfl,b1,b2⟩:=b.bV;cases rv with
  | cons r1 r2 =>
   have h:(if x.1=k then some q else gZ k (r.map (·.1)) ps)=some p:=h
   by_cases hi:x.1=k
   ·rw[if_pos hi]at h;cases h;exact⟨x.2.1,x.2.2,v',by simp[atKey,hi],r1,b1⟩
   ·rw[if_neg hi]at h;obtain⟨a,r',v,h1,h2,h3⟩:=B7 h b2 r2;exact⟨a,r',v,by unfold atKey at h1 ⊢;rw[pP,cZ hi];exact h1,h2,h3⟩
def GO(bq:bj K F q v)(rq:RelV v r)(hc:EV K F.F c k)(hk:fK K F.F xs)(b:ay K F ps vs)(rv:Vals vs (xs.map (·.2.2))) :
  ∃mR vG xc,iO true k q (xs.map (·.1)) ps=⟨.eS true mR,vG⟩/\(storedH xs k c r).map (·.1)=mR/\fK K F.F (storedH xs k c r)/\ay K F vG xc/\Vals xc ((storedH xs k c r).map (·.2.2)):=by
 unfold iO storedH;rw[AD];cases e:(atKey xs k).isSome with
 | false =>
  refine⟨_,_,vs++[v],rfl,by simp,λx hx=>?_,b.append (.cons bq .nil),by simpa using rv.append (.cons rq .nil)⟩
  simp only[eF,cK,cH,bh]at hx;rcases hx with hx | rfl
  ·exact hk x hx
  ·exact hc
 | true =>
  simp only[eI];have hm:(xs.map (putAt k r)).map (·.1)=xs.map (·.1):=by
   rw[jw];exact List.map_congr_left λy _=>by simp only[Function.comp,putAt];split<;>rfl
  have key:fK K F.F (xs.map (putAt k r)):=λx hx=>by
   obtain⟨y,hy,rfl⟩:=bZ.mp hx;have:=hk y hy;unfold putAt;split<;>exact this
  suffices h:∃xc,ay K F (sJ k q (xs.map (·.1)) ps) xc/\Vals xc ((xs.map (putAt k r)).map (·.2.2)) by
   obtain⟨xc,h1,h2⟩:=h;exact⟨_,_,xc,rfl,hm,key,h1,h2⟩
  clear e hk hm key;induction xs generalizing ps vs with
  | nil=>exact⟨vs,by rw[dZ,qM];exact b,rv⟩
  | cons x xs ih =>
   cases ps with
   | nil=>rw[b.cA]at rv;cases rv
   | cons p ps =>
    obtain⟨v',w,rfl,b1,b2⟩:=b.bV;cases rv with
    | cons r1 r2 =>
     obtain⟨xc,h1,h2⟩:=ih b2 r2;by_cases hx:x.1=k
     ·exact⟨v::xc,by simpa only[aP,sJ,hx,eI]using ay.cons bq h1,by simpa only[aP,putAt,hx,eI]using Paired.cons rq h2⟩
     ·exact⟨v'::xc,by simpa only[aP,sJ,hx,cK]using ay.cons b1 h1,by simpa only[aP,putAt,hx,cK]using Paired.cons r1 h2⟩
end
def bu:G2:=λh p q=>match p with
 | .str z=>(nF q).bind λi=>if z.length<=ic then(sh z.cps.toList i).map λc=>.str ⟨#[c]⟩else none
 | p=>match cQ h p with
  | some (.au,ps)=>(nF q).bind (sh ps)
  | some (.lst,ps)=>(nF q).bind (sh ps)
  | some (.eS t ks,ps)=>(fV t q).bind λk=>gZ k ks ps
  | _=>none
section
variable {X:Cx} {af:Hp} {ag:Fz} {a b e:Expr} {fa fb:Gx PV} {pos:Pos}
def M5(hu:X.A.units+1150<cLine):Ss X (rT X.K bu):=by
 rintro value slice ah s σ H x y v u Q I rx ry ⟨af,ag,F,st,τ,pa,pb,p,e,R,ba,bb,k⟩ hs
 have more:(match cQ st.h pa with
  | some (.au,ps)=>(nF pb).bind (sh ps)
  | some (.lst,ps)=>(nF pb).bind (sh ps)
  | some (.eS t ks,ps)=>(fV t pb).bind λk=>gZ k ks ps
  | _=>none)=some p->wpAny (model X.prog X.w) X.A (subscriptTail value slice v u) (EP X ah σ Q) X.xe s:=λe=>by
  split at e
  ·rename_i z;obtain⟨i,e1,e2⟩:=aO e;rw[fM e1]at bb;rw[aE.mp bb]at ry;obtain⟨a,vs,rfl,ha,gA⟩:=R.at z ba;obtain⟨w,hw,bw⟩:=gA.sh e2;exact O1 value slice ah s σ H _ _ v u Q I rx ry ⟨a,vs,_,w,rfl,rfl,ha.2,hw,k _ H F R (Gr.refl F) bw⟩ hs
  ·rename_i z;obtain⟨i,e1,e2⟩:=aO e;rw[fM e1]at bb;rw[aE.mp bb]at ry;obtain⟨a,vs,rfl,ha,gA⟩:=R.at z ba;obtain⟨w,hw,bw⟩:=gA.sh e2;exact Kk value slice ah s σ H _ _ v u Q I rx ry ⟨a,vs,_,w,rfl,rfl,iH.sq ha,hw,k _ H F R (Gr.refl F) bw⟩ hs
  ·rename_i t ks ps z;obtain⟨kk,e1,e2⟩:=aO e;obtain⟨a,vs,rfl,ha,gA⟩:=R.at z ba;cases rx;cases t with
   | false =>
    obtain⟨kvs,g1,g2,g3⟩:=ha;obtain⟨j,rfl,rfl⟩:=mn e1 bb;subst g2 g3;obtain⟨w,hw,bw⟩:=B6 e2 gA;obtain⟨_,hd,us,M6,dd⟩:=BS I.hok (.inl g1);have hr:=M6.val j;rw[hw]at hr;cases hv:valueAt us j with
    | none=>rw[hv]at hr;exact hr.elim
    | some u' =>
     rw[hv]at hr;exact nz dd.typeIs PySem.F.slot_dict_getitem.lookup (wpAny_getItem_of (qz ry) dd.mapOf hv ⟨w,H,I.tok _,hr,k _ H F R (Gr.refl F) bw⟩) hs
   | true =>
    obtain⟨xs,g1,g2,g3,g4⟩:=ha;obtain⟨c,rfl,hc⟩:=jJ e1 bb;cases ry;subst g3;obtain⟨ad,r,w,hw,Kl,bw⟩:=B7 e2 gA g4;obtain⟨_,hd,dd⟩:=tJ I (.inl g1) (λz hz=>ez R.sub (g2 z hz))
    obtain⟨o,_,_,ho,hx,_⟩:=id dd;refine nz ⟨o,ho,hx.1⟩ PySem.F.slot_dict_getitem.lookup (Ui (by lia) I (.inl g1) (λz hz=>ez R.sub (g2 z hz)) (ez R.sub hc) hw λs' I'=>⟨w,H,I',Kl,k _ H F R (Gr.refl F) bw⟩) hs
  ·cases e
 cases pa with
 | str z =>
  obtain⟨i,e1,e2⟩:=aO e;rw[fM e1]at bb;obtain⟨hz,e2⟩:=bS e2;obtain⟨c,e3,rfl⟩:=aQ e2;rw[bN.mp ba]at rx;rw[aE.mp bb]at ry;exact O2 value slice ah s σ H _ _ v u Q I rx ry ⟨z,i,c,rfl,rfl,d7 hz,e3,k _ H F R (Gr.refl F) (bN.mpr rfl)⟩ hs
 | aL=>exact more e
 | bl _=>exact more e
 | int _=>exact more e
 | ref _=>exact more e
 | fn _=>exact more e
 | nd _ _=>exact more e
def Y5(hu:X.A.units+1150<cLine)(ha:PE X a (tE X af ag fa))(hb:PE X b (tE X af ag fb))(hs:lP b):PE X (.Subscript a b pos) (tE X af ag (op2 bu fa fb)):=(Gg (M5 hu) ha hb hs).imp λ_ _ _ h=>oZ h
def KU(n:Bool):G2:=λh p q=>match cQ h q with
 | some (.eS t ks,_)=>(fV t p).map λk=>.bl (if n=true then !mi k ks else mi k ks)
 | _=>(Gw h q).bind λqs=>(Y3 h p qs).map λb=>.bl (if n=true then !b else b)
def PK(hu:X.A.units+1150<cLine):oY X (compareOp .In) (KU false):=by
 rintro ah s σ H x y v u Q I rx ry ⟨af,ag,F,st,τ,pa,pb,p,e,R,ba,bb,k⟩
 unfold KU at e;split at e
 ·rename_i t ks ps z;obtain⟨kk,e1,rfl⟩:=aQ e;obtain⟨a,vs,rfl,ha,gA⟩:=R.at z bb;cases ry;cases t with
  | false =>
   obtain⟨kvs,g1,g2,g3⟩:=ha;obtain⟨j,rfl,rfl⟩:=mn e1 ba;obtain⟨_,hd,us,M6,dd⟩:=BS I.hok (.inl g1);refine wpAny_in_of (qz rx) hd dd.mapOf ⟨.bl (ot kvs j).isSome,H,I.tok _,?_,k _ H F R (Gr.refl F) (bz.mpr ?_)⟩
   ·rw[(M6.val j).tF];rfl
   ·rw[<-g2,vQ];rfl
  | true =>
   obtain⟨xs,g1,g2,g3,g4⟩:=ha;obtain⟨c,rfl,hc⟩:=jJ e1 ba;cases rx;exact Ug (by lia) I (.inl g1) (λz hz=>ez R.sub (g2 z hz)) (ez R.sub hc) λs' I'=>⟨.bl _,H,I',rfl,k _ H F R (Gr.refl F) (bz.mpr (by rw[<-g3,AD];rfl))⟩
 ·obtain⟨qs,e1,e⟩:=aO e;obtain⟨b,e2,rfl⟩:=aQ e;exact(GF hu I rx ry R ba bb e1 e2).1 (k _ H F R (Gr.refl F) (bz.mpr rfl))
def DY(hu:X.A.units+1150<cLine):oY X (compareOp .NotIn) (KU true):=by
 rintro ah s σ H x y v u Q I rx ry ⟨af,ag,F,st,τ,pa,pb,p,e,R,ba,bb,k⟩
 unfold KU at e;split at e
 ·rename_i t ks ps z;obtain⟨kk,e1,rfl⟩:=aQ e;obtain⟨a,vs,rfl,ha,gA⟩:=R.at z bb;cases ry;cases t with
  | false =>
   obtain⟨kvs,g1,g2,g3⟩:=ha;obtain⟨j,rfl,rfl⟩:=mn e1 ba;obtain⟨_,hd,us,M6,dd⟩:=BS I.hok (.inl g1);refine wpAny_notIn_of (qz rx) hd dd.mapOf ⟨.bl (!(ot kvs j).isSome),H,I.tok _,?_,k _ H F R (Gr.refl F) (bz.mpr ?_)⟩
   ·rw[(M6.val j).tF];rfl
   ·rw[<-g2,vQ];rfl
  | true =>
   obtain⟨xs,g1,g2,g3,g4⟩:=ha;obtain⟨c,rfl,hc⟩:=jJ e1 ba;cases rx;exact Uh (by lia) I (.inl g1) (λz hz=>ez R.sub (g2 z hz)) (ez R.sub hc) λs' I'=>⟨.bl _,H,I',rfl,k _ H F R (Gr.refl F) (bz.mpr (by rw[<-g3,AD];rfl))⟩
 ·obtain⟨qs,e1,e⟩:=aO e;obtain⟨b,e2,rfl⟩:=aQ e;exact(GF hu I rx ry R ba bb e1 e2).2 (k _ H F R (Gr.refl F) (bz.mpr rfl))
end
def KW:G2:=λ_ p q=>match q with | .aL=>some (.bl (!ej p)) | .bl b=>(Y2 b p).map λc=>.bl (!c) | _=>none
def KY:oY X (compareOp .IsNot) KW:=by
 rintro ah s σ H x y v u Q I rx ry ⟨af,ag,F,st,τ,pa,pb,p,e,R,ba,bb,k⟩
 unfold KW at e;split at e
 ·cases e;exact J5 ah s σ H x y v u Q I rx ry ⟨cW.mp bb,k _ H F R (Gr.refl F) (bz.mpr (by rw[BY ba]))⟩
 ·rename_i b;obtain⟨c,e1,rfl⟩:=aQ e;obtain⟨a,rfl,rfl⟩:=xQ e1;rw[bz.mp ba]at rx;rw[bz.mp bb]at ry;cases rx;cases ry;exact wpAny_isNot_plain rfl ⟨.bl _,H,I,(by cases a<;>cases b<;>rfl),k _ H F R (Gr.refl F) (bz.mpr rfl)⟩
 ·cases e
def gtO:G2:=nD (λ_ _=>true) λi j=>.bl (decide (j<i))
def KZ:G2:=λh p q=>match p,q with
 | .str a,.str b=>some (.bl (!(decide (b.cps.toList<a.cps.toList))))
 | p,q=>leO h p q
def PL:oY X (compareOp .LtE) KZ:=by
 rintro ah s σ H x y v u Q I rx ry ⟨af,ag,F,st,τ,pa,pb,p,e,R,ba,bb,k⟩
 unfold KZ at e;split at e
 ·cases e;rw[bN.mp ba]at rx;rw[bN.mp bb]at ry;obtain⟨t1,rfl⟩:=rx;obtain⟨t2,rfl⟩:=ry;exact PySem.P.le_str ⟨.bl _,H,I,rfl,k _ H F R (Gr.refl F) (bz.mpr rfl)⟩
 ·exact eY (tN TQ) (λ_ _ _=>trivial) (λ_ _ _=>bz.mpr rfl) ah s σ H x y v u Q I rx ry ⟨af,ag,F,st,τ,pa,pb,p,e,R,ba,bb,k⟩
def AE:CmpOp->Option G2
 | .Eq=>some mQ
 | .NotEq=>some E2
 | .Lt=>some UC
 | .LtE=>some KZ
 | .Gt=>some gtO
 | .GtE=>some UD
 | .Is=>some Sy
 | .IsNot=>some KW
 | .In=>some (KU false)
 | .NotIn=>some (KU true)
def j5(hu:X.A.units+1150<cLine)(h:AE op=some g):oY X (compareOp op) g:=by
 have nn:∀i j:Int,(λ_ _=>true) i j=true->(λ_ _=>True) i j:=by grind
 cases op<;>cases h
 ·exact Pw hu
 ·exact Px hu
 ·exact eY (tN TN) nn λ_ _ _=>bz.mpr rfl
 ·exact PL
 ·exact eY (tN TR) nn λ_ _ _=>bz.mpr rfl
 ·exact eY (tN TU) nn λ_ _ _=>bz.mpr rfl
 ·exact Py
 ·exact KY
 ·exact PK hu
 ·exact DY hu
end L2.U
namespace L2
open PySem PySem.Spec PyProof.Rows
section
variable {X:Cx}
def GP:PE X (.Dict [] [] pos) (MY (.dK [])):=λah s σ H Q I h =>
 wpAny_Dict_empty ⟨.ref s.heap.objs.size,_,I.laid (o:=.dK []) (λ_ _ q=>aJ _ q) (aA _)
  ⟨iD _,fE.mpr (bU (bC (lW I))),[],.nil,Heap.DictOf.new s.heap⟩,rfl,h _ (I.hok.fresh (aA _))⟩
def PM(K:W.Frag):V->List V->Hp->VK->Prop:=λx vs H Q=>∃l b xs zs,x=.ref l/\vs=[.ref b]/\H l=some (.lst xs)/\(iG K H b zs\/iH K H b zs)/\xs.length+zs.length<=sizeLine/\Q .aL (cU H l (.lst (xs++zs)))
def vR(l:Addr)(ax:Array Value)(n:Nat)(b:Addr)(more:Array Value)(n2:Nat)(dd:Option Addr)(sl:Array (Option Value))(h0:¬(!ax.isEmpty&&Builtin.List.listTooLong (ax.size+more.size))=true)(h1:ax.size<=sizeLine)(h2:ax.size+more.size<=sizeLine+1) :
  Meets (Builtin.«list.extend» ⟨[.ref l,.ref b],[]⟩) (λ_ R s=>s.heap.get? l=some {cls:=.type "list",dict:=none,data:=.seq ax n,slots:=#[]}/\s.heap.get? b=some {cls:=.type "tuple",dict:=dd,data:=.seq more n2,slots:=sl} /\
   R (.ok (.ret Value.none)) {s with heap:=s.heap.update l (Obj.mapSeq λx=>x++more),toks:=s.toks}) :=
 .of_wp λprog w A R s h=>by
  obtain⟨hp,g,d,tk,os⟩:=s;obtain⟨hl,hb,h⟩:=h;have f1:=AutoSeq1.idx_int;have f2:=AutoSeq1.sub_tuple_tuple;have f3:=AutoSeq1.sub_list_list;have f4:=AutoSeq1.sub_tuple_list;have f5:=AutoSeq1.sub_list_tuple
  wp_walk using (pS hl rfl (_hz':=(by rw[Array.size_append];exact h2))),jn hl,jn hb
  exact⟨_,rfl,h⟩
def PN:YS X "list.extend" (PM X.K):=by
 intro ah s σ H x vs v us Q I rx rv h;obtain⟨l,b,xs,zs,rfl,rfl,hH,hB,hz,q⟩:=h;cases rx;obtain⟨u,rfl,ru⟩:=rv.one;cases ru;obtain⟨z,ax,n,r,hl,e⟩:=I.dN hH;have go:∀eK,Vals zs eK->(¬(!ax.toArray.isEmpty&&Builtin.List.listTooLong (ax.toArray.size+eK.toArray.size))=true/\ax.toArray.size<=sizeLine/\ax.toArray.size+eK.toArray.size<=sizeLine+1) /\
   EP X ah σ Q Value.none {s with heap:=s.heap.update l (Obj.mapSeq λx=>x++eK.toArray),toks:=s.toks}:=λeK r2=>by
  have Xr:=r2.length;have hsz:ax.toArray.size+eK.toArray.size<=sizeLine:=by grind
  refine⟨⟨?_,by grind,(Nat.le_add_right_of_le ‹_›)⟩,.aL,_,I.O5 hH e (by simp) (r.append r2) (by grind),rfl,q⟩
  rw[xJ hsz,aU];exact cw
 rcases hB with hB | hB
 ·obtain⟨eK,r2,⟨⟨cls,dd,dat,sl⟩,e2,hc,n2,hd⟩,_⟩:=I.tuple hB;simp only at hc hd;subst hc hd;obtain⟨⟨g1,g2,g3⟩,g4⟩:=go eK r2;exact gh F.slot_list_extend ⟨_,e,rfl⟩ F.entry_list_extend (F.args_list_extend_2 _ _) (vR l ax.toArray n b eK.toArray n2 dd sl g1 g2 g3) ⟨e,e2,g4⟩
 ·obtain⟨eK,n2,r2,e2,_⟩:=I.lX hB;obtain⟨⟨g1,g2,g3⟩,g4⟩:=go eK r2;exact gh F.slot_list_extend ⟨_,e,rfl⟩ F.entry_list_extend (F.args_list_extend_2 _ _) (AutoSeq1.list_extend_list_list_0 l ax.toArray n b eK.toArray n2 g1 g2 g3) ⟨e,e2,g4⟩
def B8(kvs:List (bP×V))(k:bP)(v:V):(putK kvs k v).length<=kvs.length+1:=by
 unfold putK;split
 ·grind
 ·grind
def UQ:FT:=λo i v H Q=>∃a kvs k,o=.ref a/\i=kV k/\H a=some (.dK kvs)/\kvs.length<sizeLine/\Q (cU H a (.dK (putK kvs k v)))
def PQ:FU X UQ:=by
 rintro ah s σ H o i v ov iv u Q I ro ri rv ⟨a,kvs,k,ex,ey,e1,e2,q⟩
 subst ex ey;cases ro;obtain⟨z,hd,vs,M6,dd⟩:=Ue I.hok e1;refine wpAny_setItem_pairs (qz ri) dd (λh' Sw UR=>?_) (by rw[<-M6.length];exact z)
 have Y6:=M6.put k rv;have he:∃q,h'.get? a=some q:=let ⟨q,_,_,hq,_⟩:=Sw;⟨q,hq⟩
 exact⟨_,I.write (o:=.dK (putK kvs k v)) (by rw[e1];exact True.intro) (.inl rfl) (λc q' hc z=>(UR.2 c hc).trans z) he ⟨by have:=B8 kvs k v;lia,hd,_,Y6,Sw⟩,q⟩
def US(K:W.Frag):FT:=λo i v H Q=>∃a b xs k,o=.ref a/\i=.ref b/\H a=some (.dT xs)/\fK K H xs/\EV K H b k/\xs.length<sizeLine/\∀r,RelV v r->Q (cU H a (.dT (storedH xs k b r)))
def PR(hu:X.A.units+2<cLine):FU X (US X.K):=by
 rintro ah s σ H o i v ov iv u Q I ro ri rv ⟨a,b,xs,k,ex,ey,e1,e2,e3,e4,q⟩
 subst ex ey;cases ro;cases ri;exact O7 hu I e1 e2 e3 e4 λs4 I4=>⟨_,I4,q u rv⟩
end
end L2
namespace L2.U
open PySem PySem.Spec PyProof.Rows
abbrev MG:=aj->List PV->Option (aj×PV)
def jf(h:List aj):PV->Option (Nat×aj)
 | .ref n=>(h[n]?).bind λc=>if live c=true then some (n,c)else none
 | _=>none
def gB(e:jf h p=some (n,c)):p=.ref n/\h[n]?=some c/\live c=true:=by
 cases p with
 | ref m =>
  obtain⟨d,e1,e2⟩:=aO e;obtain⟨hl,e3⟩:=aD e2;cases e3;exact⟨rfl,e1,hl⟩
 | _=>cases e
def fu(g:MG)(p:PV)(as:List PV):Gx PV:=λst=>(jf st.h p).bind λc=>(g c.2 as).map λr=>(.ok r.2,⟨st.ρ,st.h.set c.1 r.1⟩)
section
variable {X:Cx} {af H:Hp} {ag F:Fz} {st:b8} {σ:St}
def GQ(K:W.Frag)(r:V->List V->Hp->VK->Prop)(g:MG):Prop:=∀(af H:Hp) (ag F:Fz) (st:b8) (σ:St) (n:Nat) (c c':aj) (a:Addr) (as:List PV) (ws:List V) (q:PV) (Q:VK),
 Rep K af ag F st σ H->st.h[n]?=some c->live c=true->F.μ[n]?=some a->g c as=some (c',q)->ay K F as ws->(∀v F' H',Rep K af ag F' ⟨st.ρ,st.h.set n c'⟩ σ H'->Gr F F'->bj K F' q v->Q v H')->r (.ref a) ws H Q
def Rep.put(R:Rep X.K af ag F st σ H){c d:aj}(hc:st.h[n]?=some c)(hl:live c=true)(ha:F.μ[n]?=some a)(hn:kU X.K F.F (cU H a o) a true d.k vs)(hb:ay X.K F d.ps vs) :
  Rep X.K af ag F ⟨st.ρ,st.h.set n d⟩ σ (cU H a o):=⟨R.c.write hc hl ha hn hb,R.l⟩
noncomputable def dN(f:List PV->List PV->Option (List PV)):MG:=λc as=>match c.k with
 | .lst=>(f c.ps as).map λqs=>(⟨.lst,qs⟩,.aL)
 | _=>none
def K1
  (h:∀(H:Hp) (F:Fz) (ps as qs:List PV) (vs ws:List V) (a:Addr) (Q:VK) (h:List aj),cz F.F H->f ps as=some qs->H a=some (.lst vs)->ay X.K F ps vs->ay X.K F as ws->(∀xc,ay X.K F qs xc->Q .aL (cU H a (.lst xc)))->r (.ref a) ws H Q):GQ X.K r (dN f):=by
 intro af H ag F st σ n c c' a as ws q Q R hc hl ha hg hb k;unfold dN at hg;split at hg
 ·rename_i hk;obtain⟨qs,e1,e2⟩:=aQ hg;cases e2;obtain⟨_,vs,h2,h3⟩:=R.c.cell n c a hc ha hl;rw[hk]at h2;exact h H F c.ps as qs vs ws a Q st.h R.sub e1 h2 h3 hb λxc b'=>k _ F _ (R.put hc hl ha aB b') (Gr.refl _) (cW.mpr rfl)
 ·cases hg
def fw:List PV->List PV->Option (List PV):=λps as=>match as with | [p]=>if ps.length<ic then some (ps++[p])else none | _=>none
def K2:GQ X.K BR (dN fw):=K1 λH F ps as qs vs ws a Q h hs hf ha bp ba k=>by
 unfold fw at hf;split at hf
 ·obtain⟨hl,rfl⟩:=aD hf;obtain⟨v,rfl,b⟩:=dO ba;exact⟨a,vs,v,rfl,rfl,ha,by rw[<-bp.length];exact cm hl (d7 (aA _)),k _ (bp.append ba)⟩
 ·cases hf
def oB(p:PV)(as:List PV):Gx PV:=λst=>match as with
 | [q]=>(Gw st.h q).bind λrs=>fu (dN λps _=>if ps.length+rs.length<=ic then some (ps++rs)else none) p [] st
 | _=>none
def Tx.mut(hg:GQ X.K r g)(h:Tx X af ag (bj X.K) F st (fu g p as) σ Q)(R:Rep X.K af ag F st σ H)(bp:bj X.K F p v)(ba:ay X.K F as ws):r v ws H Q:=by
 obtain⟨q,h1,h2⟩:=h;obtain⟨⟨n,c⟩,e1,e2⟩:=aO h1;obtain⟨⟨c',x⟩,e3,e4⟩:=aQ e2;subst e4;obtain⟨rfl,hc,hl⟩:=gB e1;obtain⟨a,ha,rfl⟩:=dk.mp bp;exact hg af H ag F st σ n c c' a as ws x Q R hc hl ha e3 ba λv F' H' R' g' b'=>h2 v H' F' R' g' b'
def Tx.ext{Q:VK}(h:Tx X af ag (bj X.K) F st (oB p as) σ Q)(R:Rep X.K af ag F st σ H)(bp:bj X.K F p v)(ba:ay X.K F as ws):PM X.K v ws H Q:=by
 obtain⟨x,h1,h2⟩:=h;unfold oB at h1;split at h1
 ·rename_i q;obtain⟨rs,e0,h1⟩:=aO h1;obtain⟨w,rfl,bw⟩:=dO ba;obtain⟨b,zs,rfl,hs,hb⟩:=R.seq e0 bw;obtain⟨⟨n,c⟩,e1,e2⟩:=aO h1;obtain⟨⟨c',y⟩,e3,e4⟩:=aQ e2;subst e4;obtain⟨rfl,hc,hl⟩:=gB e1;obtain⟨a,ha,rfl⟩:=dk.mp bp;unfold dN at e3;split at e3
  ·rename_i hk;obtain⟨qs,e5,e6⟩:=aQ e3;cases e6;obtain⟨hz,rfl⟩:=aD e5;obtain⟨_,vs,g2,g3⟩:=R.c.cell n c a hc ha hl;rw[hk]at g2;exact⟨a,b,vs,zs,rfl,rfl,g2,hs,by rw[<-g3.length,<-hb.length];exact d7 hz,h2 .aL _ F (R.put hc hl ha aB (g3.append hb)) (Gr.refl _) (cW.mpr rfl)⟩
  ·cases e3
 ·cases h1
end
section
variable {prog:Program} {w:World} {A:Around} {R:Result->Shared->Prop} {s:Shared}
abbrev nb(prog:Program)(w:World)(A:Around)(env:Env)(R:Result->Shared->Prop):Value->Shared->Prop:=notedBy (model prog w) A env λe s'=>R (.error e) s'
noncomputable abbrev B9(ifs:List Expr)(env:Env):Sem Bool:=forIn ifs true λc r=>if r=true then do let ok <-isTrue c env (eval c env);pure (ForInStep.yield ok)else pure (ForInStep.yield r)
def DZ(I:Nat->Shared->Prop)
  (qi:∀n s,I n s->wpAny (model prog w) A (pyNext it) (λr s1=>match r with
   | none=>R (.ok .next) s1
   | some v=>wpAny (model prog w) A (letOwnedTupleGo tg it v) (λ_ s1'=>wpAny (model prog w) A (assign tg env v) (λ_ s2=>wpAny (model prog w) A (B9 ifs env) (λok s3 =>
      if ok=true then wpAny (model prog w) A (eval elt env) (λx s4=>wpAny (model prog w) A (call (.builtin "list.append") [acc,x]) (λ_ s5=>∃m,m<n/\I m s5) (nb prog w A env R) s4) (nb prog w A env R) s3
      else ∃m,m<n/\I m s3) (nb prog w A env R) s2) (nb prog w A env R) s1') (nb prog w A env R) s1) (nb prog w A env R) s)
  (n:Nat) (h:I n s):codeAny (model prog w) A (.compLoop (.ListComp elt [⟨tg,iter,ifs,0⟩] scope pos) 0 it acc env) R s:=by
 refine codeAny_loop rfl I (λn s hI=>?_) n h
 refine wpAny_noted ?_;rw[compTurn_list];refine ai (vf (ai (thn (qi n s hI) λr s1 h1=>?_)))
 cases r with
 | none=>exact ar h1
 | some v =>
  refine ai (thn h1 λ_ s1' Y7=>ai (thn Y7 λ_ s2 h2=>ai (thn h2 λok s3 h3=>?_)))
  cases ok with
  | false=>exact ar ⟨rfl,h3⟩
  | true=>exact ai (ai (thn h3 λx s4 h4=>ai (thn h4 λ_ s5 h5=>ar (ar ⟨rfl,h5⟩))))
end
noncomputable def nI(env:Env):List (Str×NameKind)->List (Str×Addr)->List (Str×Addr)
 | [],cs=>cs
 | (n,k)::r,cs=>nI env r (if k==.free then(match env.cells.lookup n with | some c=>(n,c)::cs | none=>cs)else cs)
def AF(h:∀y∈scope.names,y.2=.free->∃c,env.cells.lookup y.1=some c):closureFor scope env=pure (nI env scope.names []):=by
 have all:∀(l:List (Str×NameKind)) (cs:List (Str×Addr)),(∀y∈l,y.2=.free->∃c,env.cells.lookup y.1=some c) ->
   (forIn l cs λx r=>(match x with | (name,kind)=>if(kind==NameKind.free)=true then do let a <-cellOf env name;pure (ForInStep.yield ((name,a)::r))else pure (ForInStep.yield r):Sem (ForInStep (List (Str×Addr)))))=pure (nI env l cs):=by
  intro l;induction l with
  | nil=>intro cs _;rfl
  | cons y l ih =>
   intro cs hl;obtain⟨n,k⟩:=y;rw[m7];by_cases hk:k=.free
   ·subst hk;obtain⟨c,hc⟩:=hl (n,.free) du rfl;have EX:=hc;have e1:cellOf env n=pure c:=by unfold cellOf;rw[EX]
    simp only[e1,nI,EX];exact ih _ λy hy=>hl y (cG _ hy)
   ·have hb:(k==NameKind.free)=false:=by simpa using hk
    simp only[hb,nI];exact ih _ λy hy=>hl y (cG _ hy)
 unfold closureFor;have:=all scope.names [] h;simp only[bind_pure]at this ⊢;exact this
theorem xW:∀(l:List (Str×NameKind)) (cs:List (Str×Addr)) (p:Str×Addr),p∈nI env l cs->p∈cs\/env.cells.lookup p.1=some p.2
 | [],_,_,h=>.inl h
 | (n,k)::r,cs,p,h=>by
  unfold nI at h;rcases xW r _ p h with q | q
  ·grind
  ·grind
def dM(h:(nI env l []).lookup x=some c):env.cells.lookup x=some c:=by
 rcases xW l [] (x,c) (fF h)with q | q
 ·cases q
 ·exact q
theorem tP:∀(l:List (Str×NameKind)) (cs:List (Str×Addr)),(∃c,(x,c)∈cs)->∃c,(x,c)∈nI env l cs
 | [],_,h=>h
 | (n,k)::r,cs,⟨c,h⟩=>by
  unfold nI;refine tP r _ ⟨c,?_⟩;split
  ·grind
  ·exact h
theorem qN:∀(l:List (Str×NameKind)) (cs:List (Str×Addr)),(x,NameKind.free)∈l->(∃c,env.cells.lookup x=some c)->∃c,(x,c)∈nI env l cs
 | [],_,h,_=>by cases h
 | (n,k)::r,cs,h,hc=>by
  unfold nI;rcases aG.mp h with z | z
  ·cases z;obtain⟨c,e⟩:=hc;refine tP r _ ⟨c,?_⟩;simp[e]
  ·exact qN r _ z hc
theorem ie:∀{l:List (Str×Addr)},(x,c)∈l->∃c',l.lookup x=some c'
 | [],h=>by cases h
 | (n,d)::r,h=>by
  rw[dv];cases hx:x==n with
  | true=>exact⟨d,rfl⟩
  | false =>
   rcases aG.mp h with z | z
   ·grind
   ·exact ie z
def cy(X:Cx)(N:List Str)(scope:Scope)(C:Addr)(s:Shared)(H:Hp)(fp:List Addr):Cx where
 prog:=X.prog
 w:=X.w
 K:=X.K
 mg:=X.mg
 base:=X.base
 A:=X.A
 N:=N
 s₀:=s
 af:=H
 env:=compEnvC scope (nI X.env scope.names []) C X.env
 aC:=X.stack
 stack:=X.stack
 ex:=fp
 fn:=λ_=>false
 calm:=X.calm
 pn:=[]
 xe:=λ_ _=>False
theorem gN{env:Env}:∀(names:List (Str×NameKind)) (x:Str),(names.map fun(n,k)=>if(k==NameKind.free&&env.scope.kind==.function&&env.kindOf n==some .cell)then(n,NameKind.cell)else(n,k)).lookup x =
  (names.lookup x).map λk=>if(k==NameKind.free&&env.scope.kind==.function&&env.kindOf x==some .cell)then NameKind.cell else k
 | [],_=>rfl
 | (n,j)::r,x=>by
  have e:(if(j==NameKind.free&&env.scope.kind==.function&&env.kindOf n==some .cell)=true then(n,NameKind.cell)else(n,j))=(n,if(j==NameKind.free&&env.scope.kind==.function&&env.kindOf n==some .cell)=true then NameKind.cell else j):=by split<;>rfl
  show List.lookup x ((if(j==NameKind.free&&env.scope.kind==.function&&env.kindOf n==some .cell)=true then(n,NameKind.cell)else(n,j))::_)=_
  rw[e,dv,dv];cases hx:x==n with
  | true =>
   have AG:=aV hx;subst AG;rfl
  | false=>exact gN r x
def mq{env:Env}{names:List (Str×NameKind)}(h:(names.map fun(n,k)=>if(k==NameKind.free&&env.scope.kind==.function&&env.kindOf n==some .cell)then(n,NameKind.cell)else(n,k)).lookup x=some k) :
  names.lookup x=some k\/(k=.cell/\names.lookup x=some .free):=by
 rw[gN]at h;cases z:names.lookup x with
 | none=>rw[z]at h;cases h
 | some j =>
  rw[z]at h;have h:(if(j==NameKind.free&&env.scope.kind==.function&&env.kindOf x==some .cell)=true then NameKind.cell else j)=k:=by grind
  split at h
  ·grind
  ·grind
def vS{env:Env}{names:List (Str×NameKind)}(h:names.lookup x=some .free) :
  (names.map fun(n,k)=>if(k==NameKind.free&&env.scope.kind==.function&&env.kindOf n==some .cell)then(n,NameKind.cell)else(n,k)).lookup x=some .cell \/
  (names.map fun(n,k)=>if(k==NameKind.free&&env.scope.kind==.function&&env.kindOf n==some .cell)then(n,NameKind.cell)else(n,k)).lookup x=some .free:=by
 rw[gN,h];show some (if _ then _ else _)=_\/some (if _ then _ else _)=_
 split
 ·grind
 ·grind
structure ip (X:Cx) (N:List Str) (link:List (Option Nat)) (scope:Scope):Prop where
 kind:scope.kind=.function
 cell:∀y∈scope.names,y.2≠.cell
 names:∀y∈scope.names,y.2=.local->scope.names.lookup y.1=some .local
 free:∀y∈scope.names,y.2=.free->(X.env.kindOf y.1=some .cell\/X.env.kindOf y.1=some .free)
 len:link.length=N.length
 link:∀(i j:Nat) (x:Str),link[i]?=some (some j)->N[i]?=some x->X.N[j]?=some x/\scope.names.lookup x=some .free
noncomputable def i8(link:List (Option Nat))(σ:St):St:=link.map λo=>o.bind λj=>(σ[j]?).join
section
variable {X:Cx} {ah:List (Addr×Obj)} {σ:St} {H:Hp} {s:Shared}
def Inv.adopt(I:Inv X ah σ H s)(hn:H D=none)(h1:X.s₀.heap.objs.size<=D)(h2:D≠X.env.locals)(h3:∀x c,X.env.cells.lookup x=some c->c≠D)(h4:∀p∈X.pn++ah,p.1≠D)
  (ho:fS X.prog X.w (cU H D o) s.heap D o):Inv X ah σ (cU H D o) s:=by
 have ne:∀b u,H b=some u->b≠D:=λb u e z=>by rw[z,hn]at e;cases e
 refine I.step (ch:=[D]) (λb hb=>?_) (λb u _ _ _ e _=>e) (λb u _ _ _ e _=>⟨u.slots,e⟩) (λb u hc _ n=>?_) (λb u _ e=>⟨u,e⟩)
  (λb xs e=>by rw[aN (ne b _ e)];exact e) (λb u xs e=>by rw[aN (ne b _ e)];exact e) (λb ps e=>by rw[aN (ne b _ e)];exact e) (λm hm=>hm) (λb u e=>?_) I.bare
 ·have e:b=D:=by simpa using hb
  subst e;exact⟨.inr h1,h2,h3,h4⟩
 ·rw[aN (λz=>hc (by simp[z]))];exact n
 ·by_cases hb:b=D
  ·subst hb;rw[aB]at e;cases e;exact ho
  ·rw[aN hb]at e;exact(I.hok b u e).xx (λ_ _ _ q=>q) (λc q=>by rw[aN (ne c _ q)];exact q) (λc xs q=>by rw[aN (ne c _ q)];exact q) λc ob v q=>by rw[aN (ne c _ q)];exact q
def AH{N:List Str}{link:List (Option Nat)}(S:ip X N link scope)(I:Inv X ah σ H s)(Xv:∀b∈fp,qj X ah H b)
  (hC:s.heap.objs.size<=C) (ns:h.Ns C λ_=>none) (hk:∀b o,s.heap.get? b=some o->h.get? b=some o) (hex:∀b∈fp,∃o,s.heap.get? b=some o) :
  Inv (cy X N scope C s H fp) [] (i8 link σ) H {s with heap:=h,toks:=tk}:=by
 have xB:∀y∈scope.names,y.2=.free->∃c,X.env.cells.lookup y.1=some c:=λy hy hf=>I.ok.has y.1 (S.free y hy hf)
 have Y8:∀x c,X.env.cells.lookup x=some c->c<s.heap.objs.size:=λx c e=>let ⟨v,o,ho,_⟩:=I.cell x c e;aI ho
 refine⟨⟨I.ok.mod,S.kind,I.ok.glob,I.ok.blt,hC,λx y c h1 h2=>I.ok.inj x y c (dM h1) (dM h2),λx hx=>?_,λx c hx=>(by cases hx),I.ok.hd,I.ok.frames,.inl rfl,λb hb=>⟨?_,λx c e=>(Xv b hb).2.2.2.2.1 x c (dM e)⟩,I.bs,aR I.ok.bsz I.sz,
  λb o e hb=>?_,λb hb z=>?_,I.stack,I.vt,I.tabs⟩,rfl,I.bare,Un.kept hk,⟨_,ns,λi x v e1 e2 e3=>?_⟩,λx c e=>?_,I.hok.fresh hC,λx c e=>I.freeC x c (dM e),λp hp=>(by cases hp),I.hok.kept hk,by unfold i8;rw[aT];exact S.len⟩
 ·-- JC cells XW there
  have AG:=hx;have hf:scope.names.lookup x=some .free:=by
   rcases AG with h1 | h1
   ·rcases mq h1 with q | ⟨_,q⟩
    ·exact absurd rfl (S.cell _ (fF q))
    ·exact q
   ·rcases mq h1 with q | ⟨z,_⟩
    ·exact q
    ·cases z
  have hm:=fF hf;obtain⟨c,hc⟩:=qN scope.names [] hm (xB _ hm rfl);exact ie hc
 ·intro z;obtain⟨o,ho⟩:=hex b hb;exact absurd (cm (aI ho) (aR hC (jy z.symm))) (fJ _)
 ·rcases(Xv b hb).2.2.2.1 with z | z
  ·exact I.ok.noex b o e z
  ·exact absurd (cm (aI e) (aR I.ok.bsz z)) (fJ _)
 ·rcases aG.mp (I.vq b z)with q | q
  ·exact(Xv b hb).2.1 q
  ·exact(Xv b hb).2.2.1 q
 ·-- a slot: abv adz from JC Y9
  have hi:i<link.length:=by
   have:=(dF.mp e2).1;unfold i8 at this
   rwa [aT]at this
  unfold i8 at e2;rw[cY,dU hi]at e2;have e2:=aZ e2;cases z:link[i]with
  | none=>rw[z]at e2;cases e2
  | some j =>
   rw[z]at e2;have e2:(σ[j]?).join=some v:=e2;obtain⟨hX,hf⟩:=S.link i j x (by rw[dU hi,z]) e1
   have hm:=fF hf;have Xw:=S.free _ hm rfl;obtain⟨m,hn,hl⟩:=I.loc;obtain⟨u,r,l⟩:=hl j x v hX (by
    cases q:σ[j]? with
    | none=>rw[q]at e2;cases e2
    | some q'=>rw[q]at e2;cases q' with
     | none=>cases e2
     | some v'=>cases e2;rfl) (by rcases Xw with q | q;exact .inr (.inl q);exact .inr (.inr q))
   refine⟨u,r,.inr ⟨vS hf,?_⟩⟩;obtain⟨c,hc⟩:=qN scope.names [] hm (xB _ hm rfl);obtain⟨c',EX⟩:=ie hc;refine⟨c',EX,?_⟩;rcases l with⟨lk,_⟩ | ⟨_,d,hd,td⟩
   ·rcases Xw with q | q<;>(rw[show X.env.kindOf x=some .local from lk]at q;cases q)
   ·have:=dM EX;rw[hd]at this;cases this;exact td.keeps hk
 ·obtain⟨v,o,ho,hd⟩:=I.cell x c (dM e);exact⟨v,o,hk _ _ ho,hd⟩
end
abbrev TB:=V->St->Hp->(Option V->St->Hp->Prop)->Prop
def PB(X:Cx)(tg:Expr)(ifs:List Expr)(elt:Expr)(tb:TB):Prop :=
 ∀(ah:List (Addr×Obj)) (s:Shared) (σ:St) (H:Hp) (v:V) (u:Value) (Q:Option V->St->Hp->Prop),Inv X ah σ H s->RelV v u->tb v σ H Q ->
  wpAny (model X.prog X.w) X.A (assign tg X.env u) (λ_ s2=>wpAny (model X.prog X.w) X.A (B9 ifs X.env) (λok s3 =>
   if ok=true then wpAny (model X.prog X.w) X.A (eval elt X.env) (λy s4=>∃v' bF H',Inv X ah bF H' s4/\RelV v' y/\Q (some v') bF H') X.xe s3
   else ∃bF H',Inv X ah bF H' s3/\Q none bF H') X.xe s2) X.xe s
def GR(hg:PG X tg g)(he:PE X elt te):PB X tg [] elt (λv σ H Q=>g v σ H λiK H1=>te iK H1 λy H2=>Q (some y) iK H2):=by
 intro ah s σ H v u Q I r h;refine thn (hg ah s σ H v u _ I r h) λ_ s2 ⟨iK,H1,I1,q1⟩=>ar ?_
 rw[if_pos rfl];exact thn (he ah s2 iK H1 _ I1 q1) (by rintro y s4 ⟨v',H2,I2,r2,q2⟩;exact⟨v',iK,H2,I2,r2,q2⟩)
def K3(hg:PG X tg g)(hc:PT X c tc)(he:PE X elt te) :
  PB X tg [c] elt (λv σ H Q=>g v σ H λiK H1=>tc iK H1 λb H2=>if b=true then te iK H2 λy H3=>Q (some y) iK H3 else Q none iK H2):=by
 intro ah s σ H v u Q I r h;refine thn (hg ah s σ H v u _ I r h) λ_ s2 ⟨iK,H1,I1,q1⟩=>?_
 refine wpAny_tests_one (thn (hc ah s2 iK H1 _ I1 q1) λb s3 ⟨H2,I2,q2⟩=>?_)
 cases b with
 | true =>
  rw[if_pos rfl]at q2 ⊢;exact thn (he ah s3 iK H2 _ I2 q2) (by rintro y s4 ⟨v',H3,I3,r3,q3⟩;exact⟨v',iK,H3,I3,r3,q3⟩)
 | false =>
  rw[if_neg cw]at q2 ⊢;exact⟨iK,H2,I2,q2⟩
def tQ(link:List (Option Nat))(wi:TI)(tb:TB):TE:=λσ H Q=>wi σ H λJ H1=>∃W:Nat->Nat->List V->St->Hp->Prop,(∃m,W 0 m [] (i8 link σ) H1)/\∀i m acc bF H',W i m acc bF H' ->
 (J.stop i H'/\acc.length<=sizeLine/\∀D,H' D=none->Q (.ref D) (cU H' D (.lst acc))) \/
 (J.go i H'/\acc.length<sizeLine/\∀x H2,J.yld i H' x H2->tb x bF H2 λo oo H3=>∃m',m'<m/\W (i+1) m' (acc++o.toList) oo H3)
structure Za (X:Cx) (ah:List (Addr×Obj)) (H:Hp) (C:Addr):Prop where
 free:H C=none
 above:X.s₀.heap.objs.size<=C
 loc:C≠X.env.locals
 cell:∀x c,X.env.cells.lookup x=some c->c≠C
 pin:∀p∈X.pn++ah,p.1≠C
def tU(hc:X.calm=true)(S:ip X N link scope)(hi:PI X tg iter wi)
  (hb:∀(C:Addr) (s:Shared) (H:Hp) (fp:List Addr),PB (cy X N scope C s H fp) tg ifs elt tb) (hs:∀x,foldedSetIterable iter X.env x=pure x) (I:Inv X ah σ H s) (h:tQ link wi tb σ H Q)
  (Zb:∀(s5:Shared) (D C:Addr) (H5:Hp) (m:Str->Option Value),Inv X ah σ H5 s5->Q (.ref D) H5->s5.heap.Ns C m->Za X ah H5 C->compPost (model X.prog X.w) X.A X.xe use Q' (.ref D) C (.ok .next) s5) :
  wpAny (model X.prog X.w) X.A (comprehension (.ListComp elt [⟨tg,iter,ifs,0⟩] scope pos) scope X.env om (newList []) false (eval iter X.env) use) Q' X.xe s:=by
 have xB:∀y∈scope.names,y.2=.free->∃c,X.env.cells.lookup y.1=some c:=λy hy hf=>I.ok.has y.1 (S.free y hy hf)
 refine wpAny_comprehension_free rfl hs (AF xB) S.kind S.names (thn (hi ah s σ H _ I h) λv s1 h1=>thn h1 λYu s2 h2=>?_)
 obtain⟨it,fp,tn,J,H2,rfl,I2,T,dE,f2,W,⟨m0,w0⟩,qi⟩:=h2;refine kG (wpAny_newFunctionEnv S.cell (by grind) (λgO ns sb=>?_) S.kind)
 dsimp only at ns sb ⊢
 generalize hD:s2.heap.push {cls:=.type "list",dict:=none,data:=.seq [].toArray}=HD at ns sb ⊢
 have hC:HD.objs.size=s2.heap.objs.size+1:=by rw[<-hD,eG]
 have Xx:s2.heap.objs.size≠HD.objs.size:=by grind
 have GS:s2.heap.objs.size<=HD.objs.size:=by grind
 have old:∀b o,s2.heap.get? b=some o->gO.get? b=some o:=λb o e=>by
  have vT:=aI e;exact sb.extBut b o (bC (cm vT GS)) (aJ _ (by rw[<-hD];exact aJ _ e))
 have Zc:gO.get? s2.heap.objs.size=some {cls:=.type "list",data:=.seq [].toArray} :=
  sb.extBut _ _ Xx (aJ _ (by rw[<-hD];exact bL _ rfl))
 generalize eD:s2.heap.objs.size=D at *
 generalize eC:HD.objs.size=C at *
 have exO:∀b∈fp,∃o,s2.heap.get? b=some o:=λb j4=>let ⟨o,e,_⟩:=T.obj _ _ dE b j4;⟨o,e⟩
 have I3:∀tk,Inv (cy X N scope C s2 H2 fp) [] (i8 link σ) H2 {s2 with heap:=gO,toks:=tk}:=λtk =>
  AH S I2 f2 (by rw[eD];exact GS) ns old exO
 have fpD:∀b∈fp,b≠D:=λb j4 z=>by
  obtain⟨o,e⟩:=exO b j4;have:=aI e;rw[z,<-eD]at this;exact fJ _ this
 have An:∀{H':Hp} {pl:List (Addr×Obj)},(∀b∈fp,H' b=none)->(∀p∈pl,p.1=D)->∀b∈fp,qj (cy X N scope C s2 H2 fp) pl H' b:=λ{H' pl} hn hp b j4=>by
  have K0:=(I3 0).ok.exf b j4;exact⟨hn b j4,K0.1,(I3 0).ok.exfs b j4,.inl j4,K0.2,λp D6 z=>fpD b j4 (z▸hp p (by simpa[cy]using D6))⟩
 have UT:∀x c,(cy X N scope C s2 H2 fp).env.cells.lookup x=some c->c≠D:=λx c e z=>by
  obtain⟨v,o,ho,_⟩:=I2.cell x c (dM e);have:=aI ho;rw[z,<-eD]at this;exact fJ _ this
 have fsD:D∉(cy X N scope C s2 H2 fp).fs:=λz=>by
  obtain⟨_,o,ho,_⟩:=I2.stack.mem z;have:=aI ho;rw[<-eD]at this;exact fJ _ this
 have loop:∀s3:Shared,s3={s2 with heap:=gO,toks:=s2.toks+([]:List (Str×Value)).length} ->
   codeAny (model X.prog X.w) X.A (.compLoop (.ListComp elt [⟨tg,iter,ifs,0⟩] scope pos) 0 (.ref it) (.ref D) (cy X N scope C s2 H2 fp).env) (compPost (model X.prog X.w) X.A X.xe use Q' (.ref D) C) s3:=by
  rintro s3 rfl
  refine DZ (λn s'=>∃i acc bF H' ax nn,Inv (cy X N scope C s2 H2 fp) [] bF H' s'/\tn i s'.heap/\(∀b∈fp,H' b=none)/\H' D=none/\s'.heap.get? D=some {cls:=.type "list",data:=.seq ax.toArray nn}/\Vals acc ax/\W i n acc bF H') ?_ m0
   ⟨0,[],_,H2,[],0,I3 _,T.keep _ _ _ dE λb j4 o e=>old b o e,λb j4=>(f2 b j4).1,I2.hok.fresh (jy eD),Zc,.nil,w0⟩
  rintro n s4 ⟨i,acc,M0,H4,ax,nn,I4,EZ,fr4,hD4,Gj,hv,w4⟩
  have UU:Inv (cy X N scope C s2 H2 fp) [(D,{cls:=.type "list",data:=.seq ax.toArray nn})] M0 H4 s4:=I4.lM λp hp=>by
   have e:p=(D,{cls:=.type "list",data:=.seq ax.toArray nn}):=by simpa using hp
   subst e;exact⟨Gj,hD4,Xx,fsD,λv=>by simp⟩
  have GU:∀p∈[(D,({cls:=.type "list",data:=.seq ax.toArray nn}:Obj))],p.1=D:=λp hp=>by
   have e:p=(D,{cls:=.type "list",data:=.seq ax.toArray nn}):=by simpa using hp
   rw[e]
  rcases qi i n acc M0 H4 w4 with⟨stop,hz,q⟩ | ⟨go,hz,step⟩
  ·refine thn (T.done (cy X N scope C s2 H2 fp) rfl rfl rfl hc i _ s4 M0 H4 _ UU (An fr4 GU) EZ stop) λr s5 ⟨hr,I5⟩=>?_
   subst hr;obtain⟨m,hn,_⟩:=I5.loc;have pD:=I5.pin (D,{cls:=.type "list",data:=.seq ax.toArray nn}) (fD _ (bh.mpr rfl))
   have M7:∀b o,s2.heap.get? b=some o->b≠D/\b≠C:=λb o e=>by
    have:=aI e;rw[eD]at this;exact⟨bC this,bC (cm this GS)⟩
   have M8:X.env.locals≠D/\X.env.locals≠C:=by
    have:=I2.lt;rw[eD]at this;exact⟨bC this,bC (cm this GS)⟩
   have I6:=I2.MP I5.os I5.base I5.hok I5.bare λb j4=>⟨(f2 b j4).2.2.2.1,(f2 b j4).2.1,(f2 b j4).2.2.2.2.1,(f2 b j4).2.2.2.2.2⟩
   have I7:=Inv.adopt (o:=.lst acc) I6 pD.2.1 (aR I2.sz (jy eD)) (bU M8.1) (λx c e=>let ⟨v,o,ho,_⟩:=I2.cell x c e;(M7 c o ho).1)
    (λp hp=>(M7 p.1 p.2 (I2.pin p hp).1).1) ⟨hz,ax,nn,hv,pD.1⟩
   exact Zb s5 D C _ m I7 (q D pD.2.1) hn ⟨by rw[aN (bU Xx)];exact I5.free,aR (aR I2.sz (jy eD)) GS,bU M8.2,λx c e=>let ⟨v,o,ho,_⟩:=I2.cell x c e;(M7 c o ho).2,λp hp=>(M7 p.1 p.2 (I2.pin p hp).1).2⟩
  ·refine thn (T.item (cy X N scope C s2 H2 fp) rfl rfl rfl hc i _ s4 M0 H4 _ UU (An fr4 GU) EZ go) λr s5 ⟨u,hr,h5⟩=>?_
   subst hr;refine thn h5 λ_ s5' z9=>?_
   obtain⟨x,H5,I5,r5,y5,OF,Yy⟩:=z9;have Yz:=I5.pinned (An Yy GU) (T.obj _ _ OF);have iJ:∀{o:Option V} {Xk:St} {H6:Hp} {s6:Shared},Inv (cy X N scope C s2 H2 fp) ([(D,{cls:=.type "list",data:=.seq ax.toArray nn})]++qk fp s5'.heap) Xk H6 s6 ->
     tn (i+1) s6.heap/\(∀b∈fp,H6 b=none)/\H6 D=none/\s6.heap.get? D=some {cls:=.type "list",data:=.seq ax.toArray nn}:=λ{o Xk H6 s6} I6=>by
    have pD:=I6.pin (D,_) (fD _ (mV _ (bh.mpr rfl)));refine⟨T.keep _ _ _ OF λb j4 o e=>(I6.pin (b,o) (fD _ (fD _ (iL j4 e)))).1,λb j4=>?_,pD.2.1,pD.1⟩
    obtain⟨o,e,d⟩:=T.obj _ _ OF b j4;exact(I6.pin (b,o) (fD _ (fD _ (iL j4 e)))).2.1
   refine jz (hb C s2 H2 fp _ s5' M0 H5 x u _ Yz r5 (step x H5 y5)) (λ_ s6 h6=>jz h6 (λok s7 h7=>?_) λ_ _ z=>False.elim z) λ_ _ z=>False.elim z
   cases ok with
   | false =>
    rw[if_neg cw]at h7 ⊢;obtain⟨Xy,H8,I8,m',K4,w8⟩:=h7;obtain⟨a1,a2,a3,a4⟩:=iJ (o:=none) I8;exact⟨m',K4,i+1,_,Xy,H8,ax,nn,I8.lM (λp hp=>by cases hp),a1,a2,a3,a4,by simpa using hv,w8⟩
   | true =>
    rw[if_pos rfl]at h7 ⊢;refine jz h7 (λy s8 z9=>?_) λ_ _ z=>False.elim z
    obtain⟨v8,Xy,H8,I8,r8,m',K4,w8⟩:=z9;obtain⟨a1,a2,a3,a4⟩:=iJ (o:=some v8) I8;have hl:=hv.length;refine gh F.slot_list_append ⟨_,a4,rfl⟩ F.entry_list_append (F.args_list_append_2 _ _) (PySem.list_append D ax.toArray nn y (by rw[cx];lia)) ⟨a4,?_⟩
    have I9:Inv (cy X N scope C s2 H2 fp) [] Xy H8 s8:=I8.lM (λp hp=>by cases hp)
    have qq:=PySem.IsL.update a4 λz=>z.push y
    have hp:ax.toArray.push y=(ax++[y]).toArray:=by simp
    rw[hp]at qq;refine⟨m',K4,i+1,_,Xy,H8,ax++[y],_,I9.turned (λb o fx e=>(jo _ _ (bU fx)).trans e) a3 Xx (.inr (jy eD)) UT (λp hp=>by simp[cy]at hp),T.keep _ _ _ a1 λb j4 o e=>(jo _ _ (bU (fpD b j4))).trans e,a2,a3,qq,hv.append (.cons r8 .nil),w8⟩
 exact codeAny_compStart_list (loop _ rfl) (T.self _ 0 _ _ _ (T.keep _ _ _ dE λb j4 o e=>old b o e) (loop _ rfl))
def Cc(hc:X.calm=true)(S:ip X N link scope)(hi:PI X tg iter wi)
  (hb:∀(C:Addr) (s:Shared) (H:Hp) (fp:List Addr),PB (cy X N scope C s H fp) tg ifs elt tb) (hs:∀x,foldedSetIterable iter X.env x=pure x:=by intro _;rfl) :
  PE X (.ListComp elt [⟨tg,iter,ifs,0⟩] scope pos) (tQ link wi tb):=by
 intro ah s σ H Q I h;rw[eval_ListComp];refine tU hc S hi hb hs I h λs5 D C H5 m I5 q hn L=>⟨m,hn,λh' sb=>?_⟩
 exact⟨.ref D,H5,I5.turned (λb o fx e=>(sb.2 b fx).trans e) L.free L.loc (.inr L.above) L.cell L.pin,rfl,q⟩
def Cd(hc:X.calm=true)(hN:X.N.Nodup)(hx:X.N[i]?=some x)(hl:X.env.scope.names.lookup x=some .local)(S:ip X N link scope)(hi:PI X tg iter wi)
  (hb:∀(C:Addr) (s:Shared) (H:Hp) (fp:List Addr),PB (cy X N scope C s H fp) tg ifs elt tb) (hw:swapsWith (.ListComp elt [⟨tg,iter,ifs,0⟩] scope pos) (some (.Name x om)) D7.line X.env=pure true) (hs:∀x,foldedSetIterable iter X.env x=pure x:=by intro _;rfl) :
  PS X (.Assign [.Name x om] (.ListComp elt [⟨tg,iter,ifs,0⟩] scope pos) D7) (J0 (tQ link wi tb) (gName i)):=by
 intro ah s σ H D I h;rw[exec_Assign_Name_used _ _ _ _ hw];refine ai (vf (ai ?_));refine ai (thn (tU hc S hi hb hs I h λs5 a C H5 m I5 q hn L=>?_) λ_ s' q=>ar (ar q))
 refine wpAny_assign_Name (store_ok2 (v:=.ref a) I5 hN hx (.inl hl) rfl (λs6 I6 k=>?_) (.inr hl))
 refine⟨m,?_,λh' sb=>?_⟩
 ·obtain⟨o,es,ep,ho,r⟩:=hn;obtain⟨b,sb1,hor⟩:=k;have ne:C≠b:=λz=>by
   rcases hor with w | w
   ·exact L.loc (z.trans w)
   ·exact L.cell x b w z.symm
  exact⟨o,es,ep,(sb1.2 C ne).trans ho,r⟩
 ·exact⟨_,H5,I6.turned (λb o fx e=>(sb.2 b fx).trans e) L.free L.loc (.inr L.above) L.cell L.pin,q⟩
noncomputable def dq(link:List (Option Nat))(ρ:List (Option PV)):List (Option PV):=link.map λo=>o.bind λj=>(ρ[j]?).join
def KG(L:List Nat)(g:Tg):Prop:=∀p st st1,g p st=some st1->st1.ρ.length=st.ρ.length/\∀j:Nat,j∉L->st1.ρ[j]?=st.ρ[j]?
def UW(L:List Nat)(g:Sx):Prop:=∀p st st1,g p st=some st1->st1.ρ.length=st.ρ.length/\∀j:Nat,j∉L->st1.ρ[j]?=st.ρ[j]?
def K5(i:Nat):KG [i] (dh i):=λp st st1 h=>by
 obtain⟨_,rfl⟩:=aD h;exact⟨gD,λj hj=>bY (λz=>hj (by simp[z]))⟩
def K6:UW [] DP:=λp st st1 h=>by
 cases p with
 | nil=>cases h;exact⟨rfl,λ_ _=>rfl⟩
 | cons _ _=>cases h
def GV(h1:KG L g)(h2:UW M r):UW (L++M) (qG g r):=λp st st1 h=>by
 cases p with
 | nil=>cases h
 | cons p ps =>
  obtain⟨dE,e1,e2⟩:=aO h;obtain⟨l1,k1⟩:=h1 p st dE e1;obtain⟨l2,k2⟩:=h2 ps dE st1 e2;exact⟨l2.trans l1,λj hj=>(k2 j λz=>hj (fD _ z)).trans (k1 j λz=>hj (mV _ z))⟩
def PU(h:UW L r):KG L (AA n r):=λp st st1 e=>by
 unfold AA at e;split at e
 ·obtain⟨_,e⟩:=bS e;exact h _ st st1 e
 ·obtain⟨_,e⟩:=bS e;exact h _ st st1 e
 ·cases e
section
variable {K:W.Frag} {F:Fz} {ρ:List (Option PV)} {σ:St}
def Lc.i8(L:Lc K F ρ σ)(link:List (Option Nat)):Lc K F (dq link ρ) (i8 link σ) where
 av:=λi p e=>by
  unfold dq at e;rw[cY]at e;cases z:link[i]? with
  | none=>rw[z]at e;cases e
  | some o =>
   rw[z]at e;cases o with
   | none=>cases e
   | some j =>
    have e:(ρ[j]?).join=some p:=aZ e;cases w:ρ[j]? with
    | none=>rw[w]at e;cases e
    | some q =>
     rw[w]at e;cases e;obtain⟨v,h1,h2⟩:=L.av j p w;refine⟨v,?_,h2⟩;unfold L2.U.i8;rw[cY,z];show some ((σ[j]?).join)=_;rw[h1];rfl
 len:=by unfold dq L2.U.i8;rw[aT,aT]
def Lc.back{L:List Nat}(R:Lc K F M9 σ)(hl:Zd.length=σ.length)(h0:Zd=dq link ρ)(hk:∀j:Nat,j∉L->M9[j]?=Zd[j]?)(hL:∀i∈L,link[i]?=some none):Lc K F Zd σ where
 av:=λi p e=>by
  refine R.av i p ?_;rw[hk i λhi=>?_]
  ·exact e
  ·rw[h0]at e;unfold dq at e;rw[cY,hL i hi]at e;cases e
 len:=hl
end
noncomputable def Ze{α:Type}:Rs α×b8->Option (α×List aj)
 | (.ok a,st)=>some (a,st.h)
 | _=>none
abbrev Bd:=List (Option PV)->PV->List aj->Option (Option PV×List aj)
def oC(g:Tg)(fe:Gx PV):Bd:=λρ p h=>(g p ⟨ρ,h⟩).bind λst1=>(fe st1).bind λr=>(Ze r).map λx=>(some x.1,x.2)
def xX(g:Tg)(ft:Gx Bool)(fe:Gx PV):Bd:=λρ p h=>(g p ⟨ρ,h⟩).bind λst1=>(ft st1).bind λr=>match r with
 | (.ok b,dE)=>if b=true then(fe dE).bind λr=>(Ze r).map λx=>(some x.1,x.2)else some (none,dE.h)
 | _=>none
noncomputable def fy(bd:PV->List aj->Option (Option PV×List aj)):List PV->List aj->Option (List PV×List aj)
 | [],h=>some ([],h)
 | p::ps,h=>(bd p h).bind λr=>(fy bd ps r.2).map λs=>(r.1.toList++s.1,s.2)
section
variable {X:Cx} {af:Hp} {ag:Fz} {N:List Str} {link:List (Option Nat)} {scope:Scope} {tg iter elt c:Expr} {pos:Pos} {fi:Gx (List PV)} {g:Tg} {fe:Gx PV} {ft:Gx Bool} {L:List Nat} {cl:Bool}
def xY(e:Ze r=some (a,h)):∃st,r=(.ok a,st)/\st.h=h:=by
 obtain⟨r,st⟩:=r;cases r with
 | ok x=>cases e;exact⟨st,rfl,rfl⟩
 | ex m C=>cases e
def _root_.L2.U.PB.imp(h:PB Y tg ifs elt tb)(i:∀v σ H Q,tb' v σ H Q->tb v σ H Q):PB Y tg ifs elt tb':=λah s σ H v u Q I r w=>h ah s σ H v u Q I r (i _ _ _ _ w)
def tb1(X:Cx)(af:Hp)(ag:Fz)(g:Tg)(fe:Gx PV):TB:=λv σ H Q=>tG X.K af ag g v σ H λiK H1=>∀Y:Cx,Y.K=X.K->tE Y af ag fe iK H1 λy H2=>Q (some y) iK H2
def tb2(X:Cx)(af:Hp)(ag:Fz)(g:Tg)(ft:Gx Bool)(fe:Gx PV):TB:=λv σ H Q=>tG X.K af ag g v σ H λiK H1=>∀Y:Cx,Y.K=X.K->tT Y af ag ft iK H1 λt H2=>if t=true then tE Y af ag fe iK H2 λy H3=>Q (some y) iK H3 else Q none iK H2
section
variable (ht:∀(C:Addr) (s:Shared) (H:Hp) (fp:List Addr),PG (cy X N scope C s H fp) tg (tG X.K af ag g)) (he:∀(C:Addr) (s:Shared) (H:Hp) (fp:List Addr),PE (cy X N scope C s H fp) elt (tE (cy X N scope C s H fp) af ag fe))
include ht he
def pb1(C:Addr)(s:Shared)(H:Hp)(fp:List Addr):PB (cy X N scope C s H fp) tg [] elt (tb1 X af ag g fe) :=
 (GR (ht C s H fp) (he C s H fp)).imp (by rintro v σ H Q ⟨F,st,p,st',R,b,e,q⟩;exact⟨F,st,p,st',R,b,e,λbF H' F' R' g'=>q bF H' F' R' g' _ rfl⟩)
def pb2(hw:∀(C:Addr) (s:Shared) (H:Hp) (fp:List Addr),PT (cy X N scope C s H fp) c (tT (cy X N scope C s H fp) af ag ft))(C:Addr)(s:Shared)(H:Hp)(fp:List Addr):PB (cy X N scope C s H fp) tg [c] elt (tb2 X af ag g ft fe) :=
 (K3 (ht C s H fp) (hw C s H fp) (he C s H fp)).imp (by rintro v σ H Q ⟨F,st,p,st',R,b,e,q⟩;exact⟨F,st,p,st',R,b,e,λbF H' F' R' g'=>q bF H' F' R' g' _ rfl⟩)
end
def o6(h:tS X af ag (lZ fe (dh i)) D σ H):tE X af ag fe σ H λv H1=>D.nx (σ.set i (some v)) H1:=by
 obtain⟨F,st,R,h⟩:=h;refine⟨F,st,R,h.bnd λp v F1 st1 H1 R1 g1 b1 h1=>?_⟩
 obtain⟨st',e,z⟩:=h1.stp;obtain⟨hi,rfl⟩:=aD e;exact z F1 _ H1 ⟨R1.c,R1.l.set hi b1⟩ (Gr.refl _)
end
def SI(h:Heap)(it l:Addr)(k:Nat)(xs:Array Value):Prop:=(h.IsListIter it l k/\h.IsList l xs)\/(h.IsTupleIter it l k/\h.IsTuple l xs)
def SI.at{h h':Heap}{it l:Addr}{k:Nat}{xs:Array Value}(x:SI h it l k xs)(h1:∀o,h.get? it=some o->h'.get? it=some o)(h2:∀o,h.get? l=some o->h'.get? l=some o):SI h' it l k xs:=by
 rcases x with⟨⟨o,e,r⟩,⟨o',e',r'⟩⟩ | ⟨⟨o,e,r⟩,⟨o',e',r'⟩⟩
 ·exact .inl ⟨⟨o,h1 o e,r⟩,⟨o',h2 o' e',r'⟩⟩
 ·exact .inr ⟨⟨o,h1 o e,r⟩,⟨o',h2 o' e',r'⟩⟩
def SI.Na{h:Heap}{it l:Addr}{k:Nat}{xs:Array Value}(x:SI h it l k xs):∃o,h.get? it=some o/\∃vs,o.data=.fields vs:=by
 rcases x with⟨⟨o,e,_,d⟩,_⟩ | ⟨⟨o,e,_,d⟩,_⟩
 ·grind
 ·grind
def SI.sq{h:Heap}{it l:Addr}{k:Nat}{xs:Array Value}(x:SI h it l k xs):∃o n,h.get? l=some o/\o.data=.seq xs n:=by
 rcases x with⟨_,⟨o,e,_,n,d⟩⟩ | ⟨_,⟨o,e,_,n,d⟩⟩
 ·grind
 ·grind
def SI.ne{h:Heap}{it l:Addr}{k:Nat}{xs:Array Value}(x:SI h it l k xs):l≠it:=λz=>by
 obtain⟨o,e,vs,d⟩:=x.Na;obtain⟨o',n,e',d'⟩:=x.sq;subst z;rw[e]at e';cases e';rw[d]at d';cases d'
section
variable {prog:Program} {w:World} {A:Around} {E:Value->Shared->Prop} {s:Shared}
def AI{it t:Addr}{i:Nat}{ax:Array Value}{x:Value}{Q:Value->Shared->Prop}(PX:s.heap.IsTupleIter it t i)(ht:s.heap.IsTuple t ax)(hx:ax[i]?=some x)
  (hQ:∀h',h'.IsTupleIter it t (i+1)->Heap.SameBut it s.heap h'->Q x {s with heap:=h'}):wpAny (model prog w) A (Builtin.SmallTypes.nextOf (.ref it)) Q E s:=by
 obtain⟨o,ho,hc,hd⟩:=id PX;obtain⟨ol,Zf,_,nl,PY⟩:=ht;refine ai (f9 PX.typeIs uF (fH uF PX.typeIs Fc (by
  show wpAny _ _ (field (.ref it) 0 >>= _) _ _ s;refine ai (cJ ho hd rfl ?_);show wpAny _ _ (if(Value.ref t==Value.none)=true then _ else _) _ _ s
  rw[if_neg (show ¬((Value.ref t==Value.none)=true)from cw)]
  show wpAny _ _ (field (.ref it) 1 >>= _) _ _ s;refine ai (cJ ho hd (x:=.int i 0) rfl ?_);show wpAny _ _ (seqItems? (.ref t) >>= _) _ _ s;refine ai (fI Zf PY ?_);simp only[kH,hx];refine ai (wpAny_setField ho hd (by simp) (ar ⟨x,rfl,ar (hQ _ ⟨_,mU _ ho (Obj.isFreed_of_fields (Obj.data_mapFields hd _)),(Obj.cls_mapFields ..).trans hc,by rw[Obj.data_mapFields hd];simp[rawInt]⟩ (Heap.SameBut.update ..))⟩))) (Fb _)))
def AJ{it t:Addr}{i:Nat}{ax:Array Value}{Q:Value->Shared->Prop}(hh:A.handled=none)(PX:s.heap.IsTupleIter it t i)(ht:s.heap.IsTuple t ax)(hx:ax[i]?=none)
  (hE:∀h' e,Heap.ExtBut it s.heap h'->(∃o,h'.get? e=some o/\o.cls=.type "StopIteration")->E (.ref e) {s with heap:=h'}):wpAny (model prog w) A (Builtin.SmallTypes.nextOf (.ref it)) Q E s:=by
 obtain⟨o,ho,hc,hd⟩:=id PX;obtain⟨ol,Zf,_,nl,PY⟩:=ht;refine ai (f9 PX.typeIs uF (fH uF PX.typeIs Fc (by
  show wpAny _ _ (field (.ref it) 0 >>= _) _ _ s;refine ai (cJ ho hd rfl ?_);refine ai (cJ ho hd (x:=.int i 0) rfl ?_);show wpAny _ _ (seqItems? (.ref t) >>= _) _ _ s;refine ai (fI Zf PY ?_);simp only[kH,hx];refine ai (iE (ai (wpAny_setField ho hd (by simp) ?_)))
  show wpAny _ _ (newExc (.type "StopIteration") [] >>= _) _ _ _;refine ai ?_;simp only[newExc,newTuple];refine ai (kG ?_ (by size_fits))
  refine ai (m:=firstArgMember _ _) (wpAny_of_eq (a:=Value.none) (by first | rfl | (simp only[firstArgMember];rfl)) ?_)
  refine kG ?_ (by size_fits)
  simp only[raiseNew];refine ai (wpAny_handled ?_)
  first | rw[show A.in1.handled=none from hh] | rw[hh]
  exact ai (ar (wpAny_throw (hE _ _ (((Heap.SameBut.update ..).extBut.push _).push _) ⟨_,bL _ rfl,rfl⟩)))) (Fb _)))
def SI.next{it l:Addr}{k:Nat}{xs:Array Value}{x:Value}{Q:Value->Shared->Prop}(hi:SI s.heap it l k xs)(hx:xs[k]?=some x)(hQ:∀h',SI h' it l (k+1) xs->Heap.SameBut it s.heap h'->Q x {s with heap:=h'}) :
  wpAny (model prog w) A (Builtin.SmallTypes.nextOf (.ref it)) Q E s:=by
 have ne:=hi.ne;rcases hi with⟨h1,h2⟩ | ⟨h1,h2⟩
 ·exact wpAny_nextOf_list_item h1 h2 hx λh' a b=>hQ h' (.inl ⟨a,h2.extBut b.extBut ne⟩) b
 ·exact AI h1 h2 hx λh' a b=>hQ h' (.inr ⟨a,h2.extBut b.extBut ne⟩) b
def SI.stop{it l:Addr}{k:Nat}{xs:Array Value}{Q:Value->Shared->Prop}(hh:A.handled=none)(hi:SI s.heap it l k xs)(hx:xs[k]?=none)
  (hE:∀h' e,Heap.ExtBut it s.heap h'->(∃o,h'.get? e=some o/\o.cls=.type "StopIteration")->E (.ref e) {s with heap:=h'}):wpAny (model prog w) A (Builtin.SmallTypes.nextOf (.ref it)) Q E s:=by
 rcases hi with⟨h1,h2⟩ | ⟨h1,h2⟩
 ·exact wpAny_nextOf_list_end hh h1 h2 hx hE
 ·exact AJ hh h1 h2 hx hE
end
def nl{a b:Nat}(h:a<b):@Ne Addr a b:=bC h
section
variable {prog:Program} {w:World} {A:Around} {E:Value->Shared->Prop} {s:Shared} {z TI TO i1 i2 l1 l2:Nat} {k:Nat} {xs ys:Array Value}
def iq(h:Heap)(l:Addr)(xs:Array Value)(c:String):Prop:=(c="list_iterator"/\h.IsList l xs)\/(c="tuple_iterator"/\h.IsTuple l xs)
def j6{l:Addr}{xs:Array Value}{c:String}{Q:Value->Shared->Prop}(h:iq s.heap l xs c)(hQ:Q (.ref s.heap.objs.size) {s with heap:=s.heap.push {cls:=.type c,data:=.fields #[.ref l,.int 0 0]}}):wpAny (model prog w) A (pyIter (.ref l)) Q E s:=by
 rcases h with⟨rfl,h⟩ | ⟨rfl,h⟩
 ·exact zJ h hQ
 ·exact wpAny_pyIter_tuple h hQ
end
def sj(K:W.Frag)(H:Hp)(c:Bool)(l:Addr)(vs:List V):Prop:=if c=true then vx K H l vs else iG K H l vs
def E3(h:Heap)(c:Bool)(it l:Addr)(k:Nat):Prop:=if c=true then h.IsListIter it l k else h.IsTupleIter it l k
noncomputable def kl(c:Bool):String:=if c=true then "list_iterator" else "tuple_iterator"
section
variable {X:Cx} {ah:List (Addr×Obj)} {σ:St} {H:Hp} {s:Shared}
def sj.get(I:Inv X ah σ H s){c:Bool}{l:Addr}{vs:List V}(h:sj X.K H c l vs):∃ax:List Value,Vals vs ax/\iq s.heap l ax.toArray (kl c):=by
 unfold kl;cases c with
 | true =>
  obtain⟨ax,r,pl,_⟩:=I.list (h);exact⟨ax,r,.inl ⟨rfl,pl.isList⟩⟩
 | false =>
  obtain⟨ax,r,pl,_⟩:=I.tuple (h);exact⟨ax,r,.inr ⟨rfl,pl⟩⟩
def sj.inj(I:Inv X ah σ H s){c:Bool}{l:Addr}{vs ws:List V}(h:sj X.K H c l vs)(h':sj X.K H c l ws):vs=ws:=by
 cases c with
 | true=>exact I.lN h h'
 | false=>exact I.j3 h h'
def tV{h:Heap}{c:Bool}{it l:Addr}{k:Nat}{xs:Array Value}(h1:E3 h c it l k)(h2:iq h l xs (kl c)):SI h it l k xs:=by
 cases c with
 | true =>
  rcases h2 with⟨_,q⟩ | ⟨q,_⟩
  ·exact .inl ⟨h1,q⟩
  ·exact absurd q (by decide)
 | false =>
  rcases h2 with⟨q,_⟩ | ⟨_,q⟩
  ·exact absurd q (by decide)
  ·exact .inr ⟨h1,q⟩
def vU{h:Heap}{c:Bool}{it l:Addr}{k k':Nat}{xs:Array Value}{h0:Heap}(h1:SI h it l k xs)(h2:iq h0 l xs (kl c))(kp:∀o,h0.get? l=some o->h.get? l=some o):E3 h c it l k:=by
 cases c with
 | true =>
  rcases h2 with⟨_,⟨o,e,hc,_⟩⟩ | ⟨q,_⟩
  ·rcases h1 with⟨a,_⟩ | ⟨_,⟨o',e',EX,_⟩⟩
   ·exact a
   ·grind
  ·exact absurd q (by decide)
 | false =>
  rcases h2 with⟨q,_⟩ | ⟨_,⟨o,e,hc,_⟩⟩
  ·exact absurd q (by decide)
  ·rcases h1 with⟨_,⟨o',e',EX,_⟩⟩ | ⟨a,_⟩
   ·grind
   ·exact a
def Inv.turns{t':Nat}{h':Heap}{ch:List Addr}(I:Inv X ah σ H s)(hf:∀b∈ch,qj X ah H b)(kp:∀b o,b∉ch->s.heap.get? b=some o->h'.get? b=some o):Inv X ah σ H {s with heap:=h',toks:=t'}:=by
 have Ti:∀b u,H b=some u->b∉ch:=λb u e z=>by rw[(hf b z).1]at e;cases e
 refine I.step (λb hb=>⟨(hf b hb).2.2.2.1,(hf b hb).2.1,(hf b hb).2.2.2.2.1,(hf b hb).2.2.2.2.2⟩) (λb o _ _ hc e _=>kp b o hc e) (λb o _ _ hc e _=>⟨o.slots,kp b o hc e⟩) (λ_ _ _ _ n=>n)
  (λb o hc e=>⟨o,kp b o hc e⟩) (λ_ _ e=>e) (λ_ _ _ e=>e) (λ_ _ e=>e) (λm hm=>?_) (λb u e=>?_) I.bare
 ·obtain⟨o,es,ep,ho,r⟩:=hm;exact⟨o,es,ep,kp _ o (λz=>(hf _ z).2.1 rfl) ho,r⟩
 ·refine(I.hok b u e).xx (λc v hc q=>kp c v ?_ q) (λ_ q=>q) (λ_ _ q=>q) λ_ _ _ q=>q
  rcases hc with z | z
  ·rw[z];exact Ti b u e
  ·exact Ti c _ z
end
def E3.at{h h':Heap}{c:Bool}{it l:Addr}{k:Nat}(x:E3 h c it l k)(h1:∀o,h.get? it=some o->h'.get? it=some o):E3 h' c it l k:=by
 cases c with
 | true =>
  obtain⟨o,e,r⟩:=(x);exact(⟨o,h1 o e,r⟩)
 | false =>
  obtain⟨o,e,r⟩:=(x);exact(⟨o,h1 o e,r⟩)
def E3.obj{h:Heap}{c:Bool}{it l:Addr}{k:Nat}(x:E3 h c it l k):∃o,h.get? it=some o/\∀v,o.data≠.cell v:=by
 unfold E3 at x;split at x
 ·obtain⟨o,e,_,d⟩:=x;exact⟨o,e,λv=>by grind⟩
 ·obtain⟨o,e,_,d⟩:=x;exact⟨o,e,λv=>by grind⟩
def GW{prog:Program}{w:World}{A:Around}{it l:Addr}{xs:Array Value}(hh:A.handled=none):Draws prog w A it [it,l] xs.size (λi x=>xs[i]?=some x) (λi h=>SI h it l i xs) where
 live:=λi h st=>by
  obtain⟨o,e,_⟩:=st.Na;exact⟨o,e⟩
 frame:=λi h h' st k=>st.at (λo e=>k it (by simp) o e) (λo e=>k l (by simp) o e)
 item:=λi s Q E hi st hQ=>SI.next st (pB hi) λh' a b=>hQ _ h' s.toks (pB hi) a b
 done:=λs Q E st hE=>SI.stop hh st (kE (aA _)) hE
set_option maxHeartbeats 2000000 in
theorem GX(l:Addr)(xs:Array Value)(c:String)(part:Obj) :
  Meets (Builtin.«enumerate.__new__» ⟨[.type "enumerate",.ref l],[]⟩) (λ_ R s=>iq s.heap l xs c/\s.heap.get? l=some part /\
   ∀h1 h2:Heap,h1=s.heap.push {cls:=.type c,data:=.fields #[.ref l,.int 0 0]}->h2=h1.push {cls:=.type "enumerate",data:=.fields #[.none,.bool false,.ref s.heap.objs.size,rawInt 0,.none,.none]}->R (.ok (.ret (.ref h1.objs.size))) {s with heap:=h2}) :=
 .of_wp λprog w A R s h=>by
  obtain⟨hp,g,d,tk,os⟩:=s;obtain⟨hl,hpt,h⟩:=h;have hL:iq (Shared.heap ⟨hp,g,d,tk,os⟩) l xs c:=hl;have K7:=sub_enumerate;rcases hl with⟨rfl,⟨o,e,hc,n,hd⟩⟩ | ⟨rfl,⟨o,e,hc,n,hd⟩⟩
  ·obtain⟨oc,od,Zg,TY⟩:=o;replace hc:oc=.type "list":=hc;replace hd:Zg=.seq xs n:=hd
   wp_walk using jn e
   refine wpAny_stack_any λst=>ar ?_
   split
   ·rename_i c' _ _ _ _ _;cases(c'==Value.type "enumerate")<;>(wp_walk using jn e,j6 hL)<;>exact⟨_,rfl,h _ _ rfl rfl⟩
   ·wp_walk using jn e,j6 hL
    exact⟨_,rfl,h _ _ rfl rfl⟩
  ·obtain⟨oc,od,Zg,TY⟩:=o;replace hc:oc=.type "tuple":=hc;replace hd:Zg=.seq xs n:=hd
   wp_walk using jn e
   refine wpAny_stack_any λst=>ar ?_
   split
   ·rename_i c' _ _ _ _ _;cases(c'==Value.type "enumerate")<;>(wp_walk using jn e,j6 hL)<;>exact⟨_,rfl,h _ _ rfl rfl⟩
   ·wp_walk using jn e,j6 hL
    exact⟨_,rfl,h _ _ rfl rfl⟩
def K8{prog:Program}{w:World}{A:Around}{E:Value->Shared->Prop}{s:Shared}{e it l:Addr}{k:Nat}{i:Int}{xs:Array Value}{old:Value}{Q:Option Value->Shared->Prop}(hh:A.handled=none)(a1:IsEnum s.heap e it i old)(st:SI s.heap it l k xs)(hx:xs[k]?=none)(hQ:∀h',Heap.ExtBut it s.heap h'->Q none {s with heap:=h'}):wpAny (model prog w) A (pyNext (.ref e)) Q E s:=by
 have ty:s.TypeIs (.ref e) "enumerate":=⟨_,a1,rfl⟩;unfold pyNext;refine ai (kR (f9 ty F.slot_enumerate_next (fH F.slot_enumerate_next ty F.entry_enumerate_next (by
  show wpAny _ _ (field (.ref e) 2 >>= _) _ _ _;refine ai (cJ a1 rfl rfl (ai (SI.stop hh st hx λh' y sb ⟨o,ho,hc⟩=>?_)))
  exact ai (kN ⟨o,ho,hc⟩ u0 (ar (hQ _ sb)))) (F.args_enumerate_next_1 _))))
def Ien(K:W.Frag)(c:Bool)(l:Addr):It where
 go:=λi H=>∃vs v,sj K H c l vs/\vs[i]?=some v
 yld:=λi H x H'=>∃T v,H T=none/\x=.ref T/\H'=cU H T (.au [.int i,v])/\∀vs,sj K H c l vs->vs[i]?=some v
 stop:=λi H=>∃vs,sj K H c l vs/\vs.length<=i
def eTn(e it l:Nat)(c:Bool)(i:Nat)(h:Heap):Prop:=(∃old,IsEnum h e it i old)/\E3 h c it l i
def K9{P:Program}{w:World}{K:W.Frag}{elts:List Expr}{x1:Nat}{qt:Pos}{e it l:Nat}{c:Bool}(ord:it<e)(o1:l<it) :
  Turn P w K (.Tuple elts x1 qt) (Ien K c l) [e,it] e (eTn e it l c) where
 mem:=du
 obj:=by
  rintro i h ⟨⟨_,a1⟩,a2⟩ b hb
  simp only[aG,bG,bH]at hb;rcases hb with rfl | rfl
  ·exact⟨_,a1,λv=>by simp⟩
  ·exact a2.obj
 keep:=(by rintro i h h' ⟨⟨old,a1⟩,a2⟩ k;exact⟨⟨old,k e (by simp) _ a1⟩,a2.at λo x=>k it (by simp) o x⟩)
 item:=by
  rintro X hP hw hK hc i ah s σ H E I hf ⟨⟨old,a1⟩,a2⟩ ⟨vs,v,hv,ev⟩
  subst hP hw hK;obtain⟨ax,r1,k1⟩:=hv.get I;obtain⟨x,ex,rx⟩:=r1.get ev;have ne:e≠it:=pY ord;have nel:e≠l:=pY (jx o1 ord);have PY:X.A.in1.handled=none:=I.ok.hd hc;refine wpAny_pyNext_enum_itemD (GW (xs:=ax.toArray) (l:=l) PY) a1 (tV a2 k1) (by
   have:=(dF.mp ex).1;simpa using this) ne (by simp[ne,nel]) λx' h' tk AG hO st hT UR kp=>⟨_,rfl,?_⟩
  have xe:x'=x:=by
   have e1:ax.toArray[i]?=some x:=by simpa using ex
   rw[e1]at AG;cases AG;rfl
  subst xe;refine wpAny_letOwnedTupleGo_enum hO λJs Zh sb=>?_
  have UX:∀b∈[e,it],b<s.heap.objs.size:=λb hb=>by
   simp only[aG,bG,bH]at hb;have h1:e<s.heap.objs.size:=aI a1;rcases hb with rfl | rfl<;>lia
  have eT:e≠s.heap.objs.size:=bC (UX e (by simp))
  have UY:∀b o,b∉[e,it]->s.heap.get? b=some o->Js.get? b=some o:=λb o hb z=>by
   simp only[aG,bG,bH,not_or]at hb;exact sb.extBut _ _ hb.1 (kp b o hb.1 hb.2 z)
  have I1:Inv X ah σ H {s with heap:=Js,toks:=tk+1}:=Inv.turns I hf UY
  have hn:H s.heap.objs.size=none:=I.fresh;have La:=I.vy (H':=H) (aA _) hn;have pr:Js.get? s.heap.objs.size=some {cls:=.type "tuple",data:=.seq #[.int i tk,x']}:=sb.extBut _ _ (bU eT) hT
  have I2:=Inv.adopt (D:=s.heap.objs.size) (o:=.au [.int i,v]) I1 hn (by
    rcases La.2.2.2.1 with q | q
    ·exact I.sz
    ·exact q) La.2.1 La.2.2.2.2.1 La.2.2.2.2.2 ⟨(by show 2<=sizeLine;decide),[.int i tk,x'],.cons ⟨tk,rfl⟩ (.cons rx .nil),⟨_,pr,rfl,⟨0,rfl⟩,rfl⟩⟩
  refine⟨.ref s.heap.objs.size,_,I2,rfl,⟨s.heap.objs.size,v,hn,rfl,rfl,λxc h1=>?_⟩,⟨⟨_,Zh⟩,?_⟩,λb hb=>?_⟩
  ·rw[<-sj.inj I hv h1];exact ev
  ·have nli:l≠it:=bC o1;have q:=vU (k':=i) st k1 λo z=>kp l o (bU nel) nli z
   exact q.at λo z=>sb.extBut _ _ (bU ne) z
  ·rw[aN (bC (UX b hb))];exact(hf b hb).1
 done:=by
  rintro X hP hw hK hc i ah s σ H E I hf ⟨⟨old,a1⟩,a2⟩ ⟨vs,hv,he⟩
  subst hP hw hK;obtain⟨ax,r1,k1⟩:=hv.get I;have hz:ax.toArray[i]?=none:=kE (by rw[cx,<-r1.length];exact he)
  refine K8 (I.ok.hd hc) a1 (tV a2 k1) hz λh' sb=>⟨rfl,?_⟩
  exact Inv.turns (t':=s.toks) I hf λb o hb z=>by
   simp only[aG,bG,bH,not_or]at hb;exact sb b o hb.2 z
 self:=(by rintro A i s Q E ⟨⟨_,a1⟩,_⟩ q;exact wpAny_pyIter_enum a1 q)
noncomputable def Ce:Expr->Bool
 | .Tuple _ _ _=>true
 | _=>false
noncomputable def oE:PV->Option (List PV)
 | .nd .au ps=>some ps
 | .nd .lst ps=>some ps
 | _=>none
def fW(p q:PV):PV:=.au [p,q]
def jK{K:W.Frag}(h:oE p=some ps)(b:bj K F p x):∃c l vs,x=.ref l/\sj K F.F c l vs/\ay K F ps vs/\∀F',cz F.F F'->sj K F' c l vs:=by
 unfold oE at h;split at h
 ·cases h;obtain⟨l,vs,rfl,h1,h2⟩:=bO.mp b;exact⟨false,l,vs,rfl,h1,h2,λF' s=>cP s h1⟩
 ·cases h;obtain⟨l,vs,rfl,h1,h2⟩:=dw.mp b;exact⟨true,l,vs,rfl,h1.sq,h2,λF' s=>(jG s h1).sq⟩
 ·cases h
def D8{K:W.Frag}(hs:vx K F.F a vs)(hb:ay K F ps vs):Walk K F ps (Xi K a):=by
 intro af ag F' st σ H R s i;have hq:=(s.s.trans R.sub).seq hs;refine⟨λp e=>?_,λe=>?_⟩
 ·obtain⟨v,e1,b1⟩:=hb.get e;refine⟨⟨vs,v,hq,e1⟩,λx H' ⟨hH,y⟩=>?_⟩
  subst hH;have:=y vs hq;rw[e1]at this;cases this;exact⟨F',R,Gr.refl _,b1.mono s⟩
 ·refine⟨vs,hq,?_⟩;rw[<-hb.length];exact ia.mp e
def GY{K:W.Frag}(hs:iG K F.F a vs)(hb:ay K F ps vs):Walk K F ps (Yv K a):=by
 intro af ag F' st σ H R s i;have hq:=cP (s.s.trans R.sub) hs;refine⟨λp e=>?_,λe=>?_⟩
 ·obtain⟨v,e1,b1⟩:=hb.get e;refine⟨⟨vs,v,hq,e1⟩,λx H' ⟨hH,y⟩=>?_⟩
  subst hH;have:=y vs hq;rw[e1]at this;cases this;exact⟨F',R,Gr.refl _,b1.mono s⟩
 ·refine⟨vs,hq,?_⟩;rw[<-hb.length];exact ia.mp e
noncomputable def GZ(lo:Int)(n:Nat):List PV:=(List.range n).map fun(i:Nat)=>.int (lo+i)
def AK{K:W.Frag}(lo:Int)(n:Nat):Walk K F (GZ lo n) (Xj lo n):=by
 intro af ag F' st σ H R s i;unfold GZ;refine⟨λp e=>?_,λe=>?_⟩
 ·rw[cY]at e;by_cases hi:i<n
  ·rw[zB hi]at e;cases e;exact⟨hi,λx H' ⟨hH,y⟩=>by subst hH y;exact⟨F',R,Gr.refl _,aE.mpr rfl⟩⟩
  ·rw[uK (by simpa using hi)]at e;cases e
 ·rw[cY]at e;by_cases hi:i<n
  ·rw[zB hi]at e;cases e
  ·exact zR hi
def kB:Nat->List PV->List PV
 | _,[]=>[]
 | k,p::r=>fW (.int k) p::kB (k+1) r
theorem nJ:∀(ps:List PV) (k i:Nat),(kB k ps)[i]?=ps[i]?.map λp=>fW (.int ((k+i:Nat):Int)) p
 | [],k,i=>by simp[kB]
 | p::r,k,0=>by simp[kB]
 | p::r,k,i+1=>by
  simp only[kB,List.getElem?_cons_succ];rw[nJ r (k+1) i,show k+1+i=k+(i+1) by lia]
def Lb{K:W.Frag}(k1:∀F',cz F.F F'->sj K F' c l vs)(b1:ay K F ps vs):Walk K F (kB 0 ps) (Ien K c l):=by
 intro af ag F' st σ H R s i;have h1:=k1 H (s.s.trans R.sub);refine⟨λp e=>?_,λe=>?_⟩
 ·rw[nJ]at e;cases z1:ps[i]? with
  | none=>rw[z1]at e;cases e
  | some p1 =>
   rw[z1]at e;cases e;obtain⟨v,e1,Zi⟩:=b1.get z1;refine⟨⟨vs,v,h1,e1⟩,λx H' z9=>?_⟩
   obtain⟨T,v',hn,hx,hH,hall⟩:=z9;have g1:=hall vs h1;rw[e1]at g1;cases g1;subst hx hH;obtain⟨R2,s2⟩:=R.laid (.au [.int i,v]) hn;refine⟨_,R2,s2,bO.mpr ⟨T,[.int i,v],rfl,iG.of aB,.cons ?_ (.cons (Zi.mono (s.trans s2)) .nil)⟩⟩;rw[ny];exact aE.mpr rfl
 ·refine⟨vs,h1,?_⟩;rw[nJ]at e;cases z1:ps[i]? with
  | none =>
   have:=ia.mp z1;rw[b1.length]at this;exact this
  | some p1=>rw[z1]at e;cases e
section
variable {X:Cx} {af:Hp} {ag:Fz} {a b e tg:Expr} {fa fb:Gx PV} {ts:Gx (List PV)} {pos p:Pos}
noncomputable def PZ(i j:Int):Bool:=decide (-(2^62)<=i/\i<2^62 /\ -(2^62)<=j/\j<2^62)
def xZ:List PV->Option (List PV)
 | [.int j]=>if PZ 0 j=true then some (GZ 0 j.toNat)else none
 | _=>none
def P0(g:List PV->Option (List PV))(ts:Gx (List PV)):Gx (List PV):=bnd ts λps=>jd (g ps)
def G0(hg:Gl X "range")(hm:X.mg "range"=none)(ha:PA X [a] (tA X af ag ts))(hs:starEach [a] X.env=[(false,eval a X.env)]:=by rfl):PI X tg (.Call (.Name "range" p) [a] [] pos) (tI X af ag (P0 xZ ts)) :=
 (DC hg hm ha hs).imp λσ H Rr ⟨F,st,R,h⟩=>⟨F,st,R,h.bnd λps vs F1 st1 H1 R1 g1 b1 h1=>by
  obtain⟨o,e,z⟩:=h1.jd;unfold xZ at e;split at e
  ·obtain⟨hr,rfl⟩:=aD e;obtain⟨v,rfl,b⟩:=dO b1;obtain⟨_,_,h3,h4⟩:=iA hr;rw[aE.mp b];exact⟨_,rfl,h3,h4,z _ H1 F1 R1 (Gr.refl _) (AK 0 _)⟩
  ·cases e⟩
def Cf(fa:Gx PV):Gx (List PV):=bnd fa λp=>jd ((oE p).map λps=>kB 0 ps)
def Zj(ht:Ce tg=true)(hg:Gl X "enumerate")(hm:X.mg "enumerate"=none)(ha:PE X a (tE X af ag fa))(hs:starEach [a] X.env=[(false,eval a X.env)]) :
  PI X tg (.Call (.Name "enumerate" p) [a] [] pos) (tI X af ag (Cf fa)):=by
 rintro ah s σ H R I ⟨F,st,Rp,h⟩
 have hA:=gY ha qu hs pos ah s σ H (λvs H'=>∃F' st' x pa ps,vs=[x]/\Rep X.K af ag F' st' σ H'/\bj X.K F' pa x/\oE pa=some ps/\∀b UZ GA,Rep X.K af ag GA st' σ UZ->Gr F' GA->Walk X.K GA (kB 0 ps) b->R b UZ) I
  ⟨F,st,Rp,h.bnd λp v F1 st1 H1 R1 g1 b1 h1=>by
   obtain⟨o,e,z⟩:=h1.jd;obtain⟨ps,e1,rfl⟩:=aQ e;exact⟨F1,st1,v,p,ps,rfl,R1,b1,e1,z⟩⟩
 refine Call_ (ld_blt I hg hm boot_enumerate (hZ (thn hA λus s1 z9=>?_) hs rfl))
 obtain⟨vs,H1,I1,r1,F1,st1,x,pa,ps,ev,R1,b1,f3,q⟩:=z9;subst ev;obtain⟨u1,rfl,P1⟩:=jF r1;obtain⟨c1,l1,vs1,rfl,q1,Sz,k1⟩:=jK f3 b1;cases P1;obtain⟨ax,v1,Ld⟩:=(k1 H1 R1.sub).get I1;obtain⟨part,Nb⟩:∃o,s1.heap.get? l1=some o:=by
  rcases Ld with⟨_,⟨o,e,_⟩⟩ | ⟨_,⟨o,e,_⟩⟩
  ·grind
  ·grind
 have Le:=aI Nb;refine callType_new PySem.F.called_enumerate (by decide) (PySem.F.typeCall_enumerate_1 _) (PySem.F.newCall_enumerate_1 _) (λobj=>PySem.F.args_object_init_2 obj _) PySem.F.entry_enumerate_new (GX l1 ax.toArray (kl c1) part) ⟨Ld,Nb,λh1 h2 e1 e2=>?_⟩
 have z1:h1.objs.size=s1.heap.objs.size+1:=by simp_all
 have p1:∀b o,s1.heap.get? b=some o->h1.get? b=some o:=λb o e=>by rw[e1];exact aJ _ e
 have p2:∀b o,h1.get? b=some o->h2.get? b=some o:=λb o e=>by rw[e2];exact aJ _ e
 have g2:IsEnum h2 h1.objs.size s1.heap.objs.size 0 .none:=by rw[e2];exact bL _ rfl
 have g1:=p2 _ _ (by rw[e1];exact bL _ rfl)
 have I2:Inv X ah σ H1 {s1 with heap:=h2,toks:=s1.toks}:=I1.kept λb o e=>p2 _ _ (p1 _ _ e)
 have lL:∀b,s1.heap.objs.size<=b->H1 b=none:=λb hb=>I1.hok.fresh hb
 refine⟨⟨_,g2,rfl⟩,?_⟩;show wpAny _ _ (pyIter (.ref h1.objs.size)) _ _ {s1 with heap:=h2,toks:=s1.toks}
 refine wpAny_pyIter_enum g2 ?_;cases tg with
 | Tuple elts x1 qt =>
  refine⟨h1.objs.size,[h1.objs.size,s1.heap.objs.size],_,_,H1,rfl,I2,K9 (by lia) Le,⟨⟨_,g2⟩,(by
   cases c1 with
   | true=>exact(⟨_,g1,rfl,rfl⟩)
   | false=>exact(⟨_,g1,rfl,rfl⟩))⟩,λb hb=>?_,q _ H1 F1 R1 (Gr.refl _) (Lb k1 Sz)⟩
  simp only[aG,bG,bH]at hb;have U0:s1.heap.objs.size<=b:=by rcases hb with rfl | rfl<;>lia
  exact I1.vy U0 (lL b U0)
 | _=>cases ht
end
end L2.U
namespace L2
open PySem PySem.Spec PyProof.Rows
noncomputable def Zk(z:Str):It:=⟨λi _=>i<z.cps.size,λi H x H'=>H'=H/\∃c,z.cps[i]?=some c/\x=.str ⟨#[c]⟩,λi _=>z.cps.size<=i⟩
def G6{P:Program}{w:World}{K:W.Frag}{tg:Expr}(z:Str)(t:Tok)(it:Addr):Turn P w K tg (Zk z) [it] it (λi h=>h.IsStrIter it "str_ascii_iterator" z t i) where
 mem:=by simp
 obj:=λi h st b hb=>by
  have e:b=it:=by grind
  subst e;obtain⟨o,e,c,d⟩:=st;exact⟨o,e,λv z=>by grind⟩
 keep:=λi h h' st k=>let ⟨o,ho,r⟩:=st;⟨o,k it (by simp) o ho,r⟩
 item:=by
  intro X hP hw hK hc i ah s σ H E I hf st hg;subst hP hw hK;have hx:z.cps[i]?=some z.cps[i]:=pB hg;obtain⟨f0,f1,f2,f3,f4,f5⟩:=hf it (by simp)
  refine wpAny_pyNext_ascii_item st hx λh' st' sb=>?_
  have I1:=I.turned (t':=s.toks+1) (λb o hb e=>(sb.2 b hb).trans e) f0 f1 f3 f4 f5
  obtain⟨o,e,c,d⟩:=id st';exact⟨_,rfl,BJ e c d (by decide) ⟨.str ⟨#[z.cps[i]]⟩,H,I1,⟨_,rfl⟩,⟨rfl,_,hx,rfl⟩,st',λb hb=>(hf b hb).1⟩⟩
 done:=by
  intro X hP hw hK hc i ah s σ H E I hf st hg;subst hP hw hK;obtain⟨f0,f1,f2,f3,f4,f5⟩:=hf it (by simp)
  exact wpAny_pyNext_ascii_end (I.ok.hd hc) st (kE hg) λh' eb=>⟨rfl,I.turned (λb o hb e=>eb b o hb e) f0 f1 f3 f4 f5⟩
 self:=λ_ _ _ _ _ st h=>wpAny_pyIter_striter_ascii st h
def Zl(tl:TE):TI:=λσ H R=>tl σ H λx H1=>∃z,x=.str z/\z.cps.all (· < 128)=true/\R (Zk z) H1
def P2{X:Cx}{tg l:Expr}{tl:TE}(hl:PE X l tl):PI X tg l (Zl tl):=by
 intro ah s σ H R I h;refine thn (hl ah s σ H _ I h) λv s1 ⟨x,H1,I1,r1,q1⟩=>?_
 obtain⟨z,e,hz,q⟩:=q1;subst e;obtain⟨t,rfl⟩:=r1;refine wpAny_pyIter_ascii hz ?_;refine⟨s1.heap.objs.size,[s1.heap.objs.size],_,_,H1,rfl,I1.kept λb o e=>aJ _ e,G6 z t _,⟨_,bL _ rfl,rfl,rfl⟩,λb hb=>?_,q⟩
 have e:b=s1.heap.objs.size:=by grind
 subst e;exact I1.vy (aA _) (I1.hok.fresh (aA _))
end L2
namespace L2.U
open PySem PySem.Spec PyProof.Rows
noncomputable def Lf(z:Str):List PV:=z.cps.toList.map λc=>.str ⟨#[c]⟩
def G7{K:W.Frag}{F:Fz}(z:Str):Walk K F (Lf z) (Zk z):=by
 intro af ag F' st σ H R s i;refine⟨λp e=>?_,λe=>?_⟩
 ·unfold Lf at e;rw[cY,uJ]at e;obtain⟨c,e1,rfl⟩:=aQ e;have hi:i<z.cps.size:=(Array.getElem?_eq_some_iff.mp e1).1;refine⟨hi,λx H' ⟨hH,c',e2,e3⟩=>?_⟩
  subst hH e3;cases aZ (e1.symm.trans e2);exact⟨F',R,Gr.refl _,bN.mpr rfl⟩
 ·unfold Lf at e;rw[cY,uJ]at e;show z.cps.size<=i
  grind
inductive Cg where
 | sq (ps:List PV) | cl (n:Nat)
def U1(K:W.Frag)(F:Fz):Cg->It->Prop
 | .sq ps,J=>Walk K F ps J
 | .cl n,J=>∃a,F.μ[n]?=some a/\J=Xi K a
abbrev E4(X:Cx)(af:Hp)(ag:Fz)(f:Gx Cg):TI:=tX X af ag (U1 X.K) f
def SA(f:Gx (List PV)):Gx Cg:=bnd f λps=>cD (.sq ps)
def Nc(n:Nat)(h:List aj)(i:Nat):Option (Option PV):=match cQ h (.ref n)with
 | some (.lst,ps)=>some ps[i]?
 | _=>none
def U2(h:List aj)(p:PV):Option Cg:=match oE p with
 | some ps=>some (.sq ps)
 | none=>match p with
  | .ref n=>match cQ h (.ref n)with
   | some (.lst,_)=>some (.cl n)
   | _=>none
  | .str z=>if z.cps.all (· < 128)=true then some (.sq (Lf z))else none
  | _=>none
def AL(fe:Gx PV):Gx Cg:=bnd fe λp=>hp λh=>U2 h p
def G8(g:Tg)(body:Gx dJ)(n:Nat):Nat->Nat->Gx dJ
 | 0,_=>λ_=>none
 | f+1,i=>λst=>match Nc n st.h i with
  | some (some p)=>bnd (stp (g p)) (λ_=>bnd body (qI (G8 g body n f (i+1)))) st
  | some none=>some (.ok .nx,st)
  | none=>none
def Zm(g:Tg)(body:Gx dJ):Cg->Gx dJ
 | .sq ps=>gj g body ps
 | .cl n=>G8 g body n ic 0
def Lg(fi:Gx Cg)(g:Tg)(body:Gx dJ):Gx dJ:=bnd fi (Zm g body)
section
variable {X:Cx} {af:Hp} {ag:Fz} {e tg iter:Expr} {fa:Gx PV} {fb:Gx dJ} {body:List Stmt} {pos:Pos}
def P4(h:PI X tg e (tI X af ag f)):PI X tg e (E4 X af ag (SA f)):=(by rintro ah s σ H R I ⟨F,st,Rp,hh⟩;exact h ah s σ H R I ⟨F,st,Rp,hh.bnd λps J F1 st1 H1 R1 g1 b1 h1=>h1.cD J H1 F1 R1 (Gr.refl _) b1⟩)
def G9{K:W.Frag}{st:b8}(R:Rep K af ag F st σ H)(ha:F.μ[n]?=some a)(e:Nc n st.h i=some o):∃ps vs,o=ps[i]?/\vx K H a vs/\ay K F ps vs:=by
 unfold Nc at e;split at e
 ·rename_i ps z;cases e;obtain⟨a',vs,e1,h1,h2⟩:=R.at z (dk.mpr ⟨a,ha,rfl⟩);cases e1;exact⟨ps,vs,rfl,iH.sq h1,h2⟩
 ·cases e
def Ha(he:PE X e (tE X af ag fa)):PI X tg e (E4 X af ag (AL fa)):=by
 rintro ah s σ H R I ⟨F,st,Rp,h⟩
 obtain⟨r,e1,e2⟩:=At.bnd h
 match r,e2 with
 | (.ex m C,st1),e2 =>
  exact FY he ah s σ H R I ⟨F,st,Rp,_,e1,e2⟩
 | (.ok p,st1),e2 =>
  obtain⟨ps,e3,q⟩:=At.hp e2;unfold U2 at e3;split at e3
  ·rename_i qs e4;cases e3;unfold oE at e4;split at e4
   ·cases e4;refine FY he ah s σ H R I ⟨F,st,Rp,_,e1,λv H1 F1 R1 s1 b1=>?_⟩
    obtain⟨a,vs,rfl,hs,hb⟩:=bO.mp b1;exact⟨a,rfl,⟨vs,cP R1.sub hs⟩,q _ H1 F1 R1 s1 (GY hs hb)⟩
   ·cases e4;refine BK he ah s σ H R I ⟨F,st,Rp,_,e1,λv H1 F1 R1 s1 b1=>?_⟩
    obtain⟨a,vs,rfl,hs,hb⟩:=dw.mp b1;exact⟨a,rfl,⟨vs,(jG R1.sub hs).sq⟩,q _ H1 F1 R1 s1 (D8 hs.sq hb)⟩
   ·cases e4
  ·split at e3
   ·rename_i n _;split at e3
    ·rename_i qs z;cases e3;refine BK he ah s σ H R I ⟨F,st,Rp,_,e1,λv H1 F1 R1 s1 b1=>?_⟩
     obtain⟨a,vs,rfl,hs,hb⟩:=R1.at z b1;obtain⟨a',ha,e5⟩:=dk.mp b1;cases e5;exact⟨a,rfl,⟨vs,iH.sq hs⟩,q _ H1 F1 R1 s1 ⟨a,ha,rfl⟩⟩
    ·cases e3
   ·obtain⟨hz,rfl⟩:=aD e3;refine P2 he ah s σ H R I ⟨F,st,Rp,_,e1,λv H1 F1 R1 s1 b1=>?_⟩
    exact⟨_,bN.mp b1,hz,q _ H1 F1 R1 s1 (G7 _)⟩
   ·cases e3
def P5{fi:Gx Cg}(hp:PassesOwn (model X.prog X.w) X.A X.env X.xe)(hc:X.calm=true)(hi:PI X tg iter (E4 X af ag fi))(hg:PG X tg (tG X.K af ag g))(hb:PSs X body (tS X af ag fb))
  (hs:∀x,foldedSetIterable iter X.env x=pure x:=by intro _;rfl):PS X (.For tg iter body [] pos) (tS X af ag (Lg fi g fb)):=(OE hp hc hi hg hb hs).imp <| by
 rintro D σ H ⟨F,st,R,h⟩
 refine⟨F,st,R,h.bnd λsr J F1 st1 H1 R1 g1 wk h1=>?_⟩
 cases sr with
 | sq ps =>
  refine⟨λi m bF H'=>m=ps.length-i/\i<=ps.length/\∃F' st',Rep X.K af ag F' st' bF H'/\Gr F1 F'/\Sa X af ag F' D st' (gj g fb (ps.drop i)),⟨ps.length,by simp,iD _,F1,st1,R1,Gr.refl _,h1⟩,?_⟩
  rintro i m bF H' ⟨rfl,hi,F',st',R',s',hr⟩
  obtain⟨wg,Zn⟩:=wk af ag F' st' bF H' R' s' i;by_cases vT:i<ps.length
  ·obtain⟨go,wy⟩:=wg ps[i] (dU vT);rw[zj vT]at hr;refine .inr ⟨go,λBL H2=>∃F2 dE,Rep X.K af ag F2 dE BL H2/\Gr F1 F2/\Sa X af ag F2 D dE (gj g fb (ps.drop (i+1))),λBL H2 n2=>⟨ps.length-(i+1),by lia,rfl,vT,n2⟩,λx H2 y=>?_⟩
   obtain⟨F2,R2,s2,b2⟩:=wy x H2 y;obtain⟨r,e1,e2⟩:=At.bnd hr;obtain⟨U3,e3,e4⟩:=aQ e1;subst e4;refine⟨F2,st',ps[i],U3,R2,b2,e3,λoo H3 F3 R3 s3=>⟨F3,U3,R3,?_⟩⟩
   exact Sa.qi _ (λF4 EZ M0 H4 R4 g4 z=>⟨F4,EZ,R4,(s'.trans (s2.trans s3)).trans g4,z⟩) (Sa.mono (e2) (s2.trans s3))
  ·have e:i=ps.length:=by lia
   subst e;rw[List.drop_length]at hr;exact .inl ⟨Zn (uK (aA _)),At.cD hr F' bF H' R' (Gr.refl _)⟩
 | cl n =>
  obtain⟨a,ha,rfl⟩:=wk;refine⟨λi m bF H'=>∃F' st',Rep X.K af ag F' st' bF H'/\Gr F1 F'/\Sa X af ag F' D st' (G8 g fb n m i),⟨ic,F1,st1,R1,Gr.refl _,h1⟩,?_⟩
  rintro i m bF H' ⟨F',st',R',s',hr⟩
  cases m with
  | zero=>obtain⟨r,e,_⟩:=hr;cases e
  | succ m =>
   obtain⟨r,e1,e2⟩:=hr;have e1:(match Nc n st'.h i with
    | some (some p)=>bnd (stp (g p)) (λ_=>bnd fb (qI (G8 g fb n m (i+1)))) st'
    | some none=>some (.ok .nx,st')
    | none=>none)=some r:=e1
   cases z:Nc n st'.h i with
   | none=>rw[z]at e1;cases e1
   | some o =>
    obtain⟨ps,vs,ho,hq,qH⟩:=G9 R' (s'.m n a ha) z;cases o with
    | none =>
     rw[z]at e1;cases e1;refine .inl ⟨⟨vs,hq,?_⟩,e2 F' bF H' R' (Gr.refl _)⟩;rw[<-qH.length];exact ia.mp ho.symm
    | some p =>
     rw[z]at e1;obtain⟨v,hv,bv⟩:=qH.get ho.symm;refine .inr ⟨⟨vs,v,hq,hv⟩,λBL H2=>∃F2 dE,Rep X.K af ag F2 dE BL H2/\Gr F1 F2/\Sa X af ag F2 D dE (G8 g fb n m (i+1)),λBL H2 n2=>⟨m,pO m,n2⟩,λx H2 ⟨hH,y⟩=>?_⟩
     subst hH;have:=y vs hq;rw[hv]at this;cases this;obtain⟨r',q1,q2⟩:=At.bnd (⟨r,e1,e2⟩);obtain⟨U3,e3,e4⟩:=aQ q1;subst e4;refine⟨F',st',p,U3,R',bv,e3,λoo H3 F3 R3 s3=>⟨F3,U3,R3,?_⟩⟩
     exact Sa.qi _ (λF4 EZ M0 H4 R4 g4 z=>⟨F4,EZ,R4,(s'.trans s3).trans g4,z⟩) (Sa.mono (q2) s3)
end
def Ci(bd:PV->List aj->Option (Option PV×List aj))(n:Nat):Nat->Nat->List aj->Option (List PV×List aj)
 | 0,_,_=>none
 | f+1,i,h=>match Nc n h i with
  | some (some p)=>(bd p h).bind λr=>(Ci bd n f (i+1) r.2).map λs=>(r.1.toList++s.1,s.2)
  | some none=>some ([],h)
  | none=>none
def Cj(bd:PV->List aj->Option (Option PV×List aj))(h:List aj):Cg->Option (List PV×List aj)
 | .sq ps=>if ps.length<=ic then fy bd ps h else none
 | .cl n=>Ci bd n ic 0 h
def Ck(c:Bool)(ρ:List (Option PV))(r:List PV×List aj):Option (Rs PV×b8):=if c=true then jH ⟨.lst,r.1⟩ ⟨ρ,r.2⟩else some (.ok (.lst r.1),⟨ρ,r.2⟩)
def jL(c:Bool)(link:List (Option Nat))(fi:Gx Cg)(bd:Bd):Gx PV:=bnd fi λs st=>(Cj (bd (dq link st.ρ)) st.h s).bind (Ck c st.ρ)
section
variable {X:Cx} {af:Hp} {ag:Fz} {N:List Str} {link:List (Option Nat)} {scope:Scope} {tg iter elt c:Expr} {pos:Pos} {fi:Gx Cg} {g:Tg} {fe:Gx PV} {ft:Gx Bool} {L:List Nat} {cl:Bool}
def ya{st1:b8}{Q:VK}(R':lG X.K af ag F' hf H')(L1:Lc X.K F1 st1.ρ σ)(g':Gr F1 F')(qH:ay X.K F' done acc)(hn:H' D=none)(e4:Ck cl st1.ρ (done,hf)=some r)(e2:Gu X af ag F1 (λa st'=>∀b H' F',Rep X.K af ag F' st' σ H'->Gr F1 F'->bj X.K F' a b->Q b H') r):Q (.ref D) (cU H' D (.lst acc)):=by
 have Ro:Rep X.K af ag F' ⟨st1.ρ,hf⟩ σ H':=⟨R',L1.mono g'⟩;cases cl with
 | true =>
  have e4:=e4;exact Tx.jH (Tx.mono ⟨r,e4,e2⟩ g' λ_ _ z=>z) Ro hn aB qH
 | false =>
  have e4:=e4;cases e4;obtain⟨R2,s2⟩:=Ro.laid (.lst acc) hn;exact e2 _ _ _ R2 (g'.trans s2) (dw.mpr ⟨D,acc,rfl,iH.of aB,qH.mono s2⟩)
def tW{Q:VK}
  (hb:∀(F2:Fz) (ρ:List (Option PV)) (p:PV) (h h':List aj) (o:Option PV) (x:V) (bF:St) (H2:Hp) (Q':Option V->St->Hp->Prop),bd (dq link ρ) p h=some (o,h')->Rep X.K af ag F2 ⟨dq link ρ,h⟩ bF H2->bj X.K F2 p x ->
   (∀o' oo H3 F3,Rep X.K af ag F3 ⟨dq link ρ,h'⟩ oo H3->Gr F2 F3->ay X.K F3 o.toList (Option.toList o')->Q' o' oo H3)->tb x bF H2 Q')
  (h:tE X af ag (jL cl link fi bd) σ H Q):tQ link (E4 X af ag fi) tb σ H Q:=by
 obtain⟨F,st,R,h⟩:=h;refine⟨F,st,R,h.bnd λsr J F1 st1 H1 R1 g1 wk h1=>?_⟩
 obtain⟨r,e1,e2⟩:=h1;obtain⟨⟨rs,hf⟩,e3,e4⟩:=aO e1;cases sr with
 | sq ps =>
  obtain⟨eX,e3⟩:=bS e3;refine⟨λi m acc bF H'=>m=ps.length-i/\i<=ps.length/\acc.length<=i/\∃F' h' done rest,Rep X.K af ag F' ⟨dq link st1.ρ,h'⟩ bF H'/\Gr F1 F'/\fy (bd (dq link st1.ρ)) (ps.drop i) h'=some (rest,hf)/\done++rest=rs/\ay X.K F' done acc,
   ⟨ps.length,rfl,iD _,aA _,F1,st1.h,[],rs,⟨R1.c,R1.l.i8 link⟩,Gr.refl _,e3,rfl,.nil⟩,?_⟩
  rintro i m acc bF H' ⟨rfl,hi,ha,F',h',done,rest,R',g',hr,hd,qH⟩
  obtain⟨wg,Zn⟩:=wk af ag F' _ bF H' R' g' i;by_cases vT:i<ps.length
  ·rw[zj vT]at hr;obtain⟨⟨o,h2⟩,e5,e6⟩:=aO hr;obtain⟨⟨r2,h3⟩,e7,e8⟩:=aQ e6;cases e8;obtain⟨go,wy⟩:=wg ps[i] (dU vT);refine .inr ⟨go,pG (aR ha hi) (pG eX (by decide)),λx H2 y=>?_⟩
   obtain⟨F2,R2,s2,b2⟩:=wy x H2 y;refine hb F2 st1.ρ ps[i] h' h2 o x bF H2 _ e5 R2 b2 λo' oo H3 F3 R3 s3 b3=>⟨ps.length-(i+1),by lia,rfl,vT,?_,F3,h2,done++o.toList,r2,R3,g'.trans (s2.trans s3),e7,by rw[<-hd,js],(qH.mono (s2.trans s3)).append b3⟩
   rw[bB];cases o'<;>simp <;> lia
  ·have e:i=ps.length:=by lia
   subst e;rw[List.drop_length]at hr;cases hr;rw[c6]at hd;subst hd;exact .inl ⟨Zn (uK (aA _)),aR ha (d7 eX),λD hn=>ya R'.c R1.l g' qH hn e4 e2⟩
 | cl n =>
  obtain⟨a,hna,rfl⟩:=wk;refine⟨λi m acc bF H'=>i+m=ic/\acc.length<=i/\∃F' h' done rest,Rep X.K af ag F' ⟨dq link st1.ρ,h'⟩ bF H'/\Gr F1 F'/\Ci (bd (dq link st1.ρ)) n m i h'=some (rest,hf)/\done++rest=rs/\ay X.K F' done acc,
   ⟨ic,ny _,aA _,F1,st1.h,[],rs,⟨R1.c,R1.l.i8 link⟩,Gr.refl _,e3,rfl,.nil⟩,?_⟩
  rintro i m acc bF H' ⟨hm,ha,F',h',done,rest,R',g',hr,hd,qH⟩
  cases m with
  | zero=>cases hr
  | succ m =>
   have hr:(match Nc n h' i with
    | some (some p)=>(bd (dq link st1.ρ) p h').bind λr=>(Ci (bd (dq link st1.ρ)) n m (i+1) r.2).map λs=>(r.1.toList++s.1,s.2)
    | some none=>some ([],h')
    | none=>none)=some (rest,hf):=hr
   have Az:i<=ic:=by lia
   cases z:Nc n h' i with
   | none=>rw[z]at hr;cases hr
   | some o =>
    obtain⟨ps,vs,ho,hq,hbq⟩:=G9 R' (g'.m n a hna) z;rw[z]at hr;cases o with
    | none =>
     cases hr;rw[c6]at hd;subst hd;refine .inl ⟨⟨vs,hq,?_⟩,aR ha (d7 Az),λD hn=>ya R'.c R1.l g' qH hn e4 e2⟩
     rw[<-hbq.length];exact ia.mp ho.symm
    | some p =>
     obtain⟨⟨o,h2⟩,e5,e6⟩:=aO hr;obtain⟨⟨r2,h3⟩,e7,e8⟩:=aQ e6;cases e8;obtain⟨v,hv,bv⟩:=hbq.get ho.symm;refine .inr ⟨⟨vs,v,hq,hv⟩,pG (aR ha Az) (by decide),λx H2 ⟨hH,y⟩=>?_⟩
     subst hH;have:=y vs hq;rw[hv]at this;cases this;refine hb F' st1.ρ p h' h2 o v bF H2 _ e5 R' bv λo' oo H3 F3 R3 s3 b3=>⟨m,pO m,by lia,?_,F3,h2,done++o.toList,r2,R3,g'.trans s3,e7,by rw[<-hd,js],(qH.mono s3).append b3⟩
     rw[bB];cases o'<;>simp <;> lia
def Hb(hg:KG L g)(hL:∀i∈L,link[i]?=some none)(h:tE X af ag (jL cl link fi (oC g fe)) σ H Q):tQ link (E4 X af ag fi) (tb1 X af ag g fe) σ H Q :=
 tW (λF2 ρ p h h' o x bF H2 Q' e R2 b2 k=>by
  obtain⟨st1,e1,e⟩:=aO e;obtain⟨r,e2,e⟩:=aO e;obtain⟨⟨a,hh⟩,e3,e4⟩:=aQ e;cases e4;obtain⟨w9,rfl,rfl⟩:=xY e3;obtain⟨l1,k1⟩:=hg _ _ _ e1;refine⟨F2,_,p,st1,R2,b2,e1,λoo H3 F3 R3 s3 Y hY=>⟨F3,st1,by grind,_,e2,λv H4 F4 R4 s4 b4=>?_⟩⟩
  rw[hY]at R4 b4;exact k (some v) oo H4 F4 ⟨R4.c,(R3.l.mono s4).back (l1.symm.trans R3.l.len) rfl k1 hL⟩ (s3.trans s4) (.cons b4 .nil)) h
def Hc(hg:KG L g)(hL:∀i∈L,link[i]?=some none)(h:tE X af ag (jL cl link fi (xX g ft fe)) σ H Q):tQ link (E4 X af ag fi) (tb2 X af ag g ft fe) σ H Q :=
 tW (λF2 ρ p h h' o x bF H2 Q' e R2 b2 k=>by
  obtain⟨st1,e1,e⟩:=aO e;obtain⟨r,e2,e⟩:=aO e;obtain⟨l1,k1⟩:=hg _ _ _ e1;refine⟨F2,_,p,st1,R2,b2,e1,λoo H3 F3 R3 s3 Y hY=>⟨F3,st1,by grind,r,e2,?_⟩⟩
  match r,e with
  | (.ok b,dE),e =>
   intro b' H4 F4 R4 s4 eb;cases eb;cases b with
   | true =>
    have e:=e;obtain⟨r,e5,e⟩:=aO e;obtain⟨⟨a,hh⟩,e6,e7⟩:=aQ e;cases e7;obtain⟨w9,rfl,rfl⟩:=xY e6;rw[if_pos rfl];refine⟨F4,dE,R4,_,e5,λv H5 F5 R5 s5 b5=>?_⟩
    rw[hY]at R5 b5;exact k (some v) oo H5 F5 ⟨R5.c,(R3.l.mono (s4.trans s5)).back (l1.symm.trans R3.l.len) rfl k1 hL⟩ (s3.trans (s4.trans s5)) (.cons b5 .nil)
   | false =>
    have e:=e;cases e;rw[hY]at R4;exact k none oo H4 F4 ⟨R4.c,(R3.l.mono s4).back (l1.symm.trans R3.l.len) rfl k1 hL⟩ (s3.trans s4) .nil) h
end
noncomputable def oF:aj:=⟨.au,[]⟩
section
variable {K:W.Frag} {af H:Hp} {ag F F':Fz} {st:b8} {σ:St} {a:Addr} {n:Nat} {c:aj}
def U4{μ:List Addr}(hd:μ.Nodup)(h1:μ[n]?=some a)(h2:μ[m]?=some b)(hm:m≠n):b≠a:=λz=>by
 subst z;exact hm ((List.getElem?_inj (dF.mp h2).1 hd).mp (h2.trans h1.symm))
def Rep.lock(R:Rep K af ag F st σ H)(ha:F.μ[n]?=some a)(hf:F.F a=none)(u:HO):Rep K af ag ⟨cU F.F a u,F.μ⟩ ⟨st.ρ,st.h.set n oF⟩ σ (cU H a u)/\Gr F ⟨cU F.F a u,F.μ⟩:=by
 have g:Gr F ⟨cU F.F a u,F.μ⟩:=⟨fT hf,λ_ _ h=>h⟩
 have h0:=(R.c.new n a ha).1;refine⟨⟨⟨λb o e=>?_,λb o e=>?_,R.c.base.trans g,λb o e=>?_,λm b e=>?_,by simp[R.c.hl],R.c.nd,λm d b hd hb hl=>?_⟩,R.l.mono g⟩,g⟩
 ·have e:cU F.F a u b=some o:=e;by_cases hb:b=a
  ·subst hb;rw[aB]at e ⊢;exact e
  ·rw[aN hb]at e ⊢;exact R.c.sub _ _ e
 ·rw[aN (dj e h0)];exact R.c.keep _ _ e
 ·have e:cU F.F a u b=some o:=e;by_cases hb:b=a
  ·subst hb;exact .inr h0
  ·rw[aN hb]at e;exact R.c.fresh _ _ e
 ·obtain⟨h1,o,h2⟩:=R.c.new m b e;by_cases hb:b=a
  ·subst hb;exact⟨h1,u,aB⟩
  ·exact⟨h1,o,by rw[aN hb];exact h2⟩
 ·by_cases hm:m=n
  ·subst hm;rw[List.getElem?_set_self' ]at hd;cases z:st.h[m]? with
   | none=>rw[z]at hd;cases hd
   | some d'=>rw[z]at hd;cases hd;cases hl
  ·rw[bY (bU hm)]at hd;have j4:=U4 R.c.nd ha hb hm;obtain⟨h1,vs,h2,h3⟩:=R.c.cell m d b hd hb hl;exact⟨(aN j4).trans h1,vs,h2.to g.s (λo e=>by rw[aN j4];exact e) (λz=>z),h3.mono g⟩
end
noncomputable def kC:bP->PV
 | .inl i=>.int i
 | .inr x=>.str x
noncomputable def D9:PV->Option (List PV)
 | .nd .lst qs=>some qs
 | _=>none
def adI(n:Nat)(ks:List (bP×List bP))(ps:List PV)(p q:PV):Option (List PV):=match p with
 | .ref m=>if m=n then(fV true q).bind λk=>(gZ k ks ps).bind D9 else none
 | _=>none
section
variable {X:Cx} {af:Hp} {ag:Fz} {tg iter va vb:Expr} {fe fa fb:Gx PV} {f:Gx dJ} {body:List Stmt} {pos adJ:Pos} {D:xC} {g:Tg}
def P6(fe:Gx PV):Gx PV:=bnd fe λp st=>match p with
 | .ref n=>(jf st.h (.ref n)).bind λq=>match q.2.k with
  | .lst=>some (.ok (.lst q.2.ps),⟨st.ρ,st.h.set n oF⟩)
  | _=>none
 | p=>some (.ok p,st)
def U5{e:Expr}(he:PE X e (tE X af ag fe)):PE X e (tE X af ag (P6 fe)):=he.imp λσ H Q h=>by
 obtain⟨F,st,R,h⟩:=h;refine⟨F,st,R,h.bnd λp v F1 st1 H1 R1 g1 b1 h1=>?_⟩
 have keep:(∀n,p≠.ref n)->Q v H1:=λhp=>by
  obtain⟨r,e1,e2⟩:=h1;cases p with
  | ref n=>exact absurd rfl (hp n)
  | _=>cases e1;exact e2 _ _ F1 R1 (Gr.refl _) b1
 cases p with
 | ref n =>
  obtain⟨r,e1,e2⟩:=h1;obtain⟨⟨m,c⟩,d1,e3⟩:=aO (show(jf st1.h (.ref n)).bind _=some r from e1)
  obtain⟨z,Zo,hl⟩:=gB d1;cases z;obtain⟨a,ha,rfl⟩:=dk.mp b1;obtain⟨ck,cp⟩:=c;cases ck with
  | lst =>
   cases e3;obtain⟨hf,ws,k1,hv⟩:=R1.c.cell n _ a Zo ha hl;have k1:H1 a=some (.lst ws):=k1;obtain⟨R2,g2⟩:=R1.lock ha hf (.lst ws);have eH:cU H1 a (.lst ws)=H1:=by
    funext b
    by_cases hb:b=a
    ·subst hb;rw[aB,k1]
    ·rw[aN hb]
   rw[eH]at R2;exact e2 _ _ _ R2 g2 (dw.mpr ⟨a,ws,rfl,iH.of aB,hv.mono g2⟩)
  | _=>cases e3
 | _=>exact keep λ_ z=>nomatch z
end
def Cm{P:Program}{w:World}{H':Hp}{h1 h5 B:Heap}(x:lF P w H' h1)(hB:∀b o,H' b=some o->∃ob,B.get? b=some ob)(k1:B.StaysIn h1)(k5:B.StaysIn h5):lF P w H' h5:=λa o e=>by
 have keep:∀b u o',H' b=some o'->h1.get? b=some u->h5.get? b=some u:=λb u o' eb q=>by
  obtain⟨ob,Sl⟩:=hB b o' eb;have:=k1 b ob Sl;rw[q]at this;cases this;exact k5 b _ Sl
 refine(x a o e).xx (λb u hb q=>?_) (λ_ q=>q) (λ_ _ q=>q) λ_ _ _ q=>q
 rcases hb with rfl | hb
 ·exact keep _ _ _ e q
 ·exact keep _ _ _ hb q
def Hd{l:List Env}{H H':Hp}{h h1 h5 B B':Heap}(u:Un (lL l) [] H H' h h1)(sm:Dm H H')(hB:∀b o,H' b=some o->∃ob,B.get? b=some ob)(hU:∀b ob,h.get? b=some ob->H b=none->b∉lL l->B.get? b=some ob)
  (k5:B.StaysIn h5) (fr:h1.FunFrames B' l) (up:h1.UpToSlots h5):Un (lL l) [] H H' h h5:=by
 have slot:∀b o,h.get? b=some o->H b=none->b∈lL l->∃sl,h5.get? b=some {o with slots:=sl}:=λb o q n hb=>by
  obtain⟨sl,e⟩:=u.slot b o q n hb (by simp)
  obtain⟨_,o',mP,hd⟩:=fr.mem hb;rw[e]at mP;cases mP;obtain⟨Tf,e'⟩:=up b _ e hd;exact⟨Tf,e'⟩
 refine⟨λb o q n hb _=>k5 b o (hU b o q n hb),λb o q n hb _=>slot b o q n hb,u.free,λb o q hx=>?_,u.tups,u.frzs,u.tbls⟩
 cases z:H b with
 | none =>
  by_cases hb:b∈lL l
  ·grind
  ·exact⟨o,k5 b o (hU b o q z hb)⟩
 | some v =>
  obtain⟨v',z'⟩:=sm b v z;obtain⟨ob,Sl⟩:=hB b v' z';exact⟨ob,k5 b ob Sl⟩
def Ea{P:Program}{w:World}{H:Hp}{h:Heap}{a:Addr}{o:HO}(x:fS P w H h a o):∃ob,h.get? a=some ob:=by
 cases o with
 | lst xs=>obtain⟨_,_,_,_,e⟩:=x;exact⟨_,e⟩
 | au xs=>obtain⟨_,_,_,ob,e,_⟩:=x;exact⟨_,e⟩
 | dK kvs=>obtain⟨_,_,_,_,o,_,_,e,_⟩:=x;exact⟨_,e⟩
 | dT kvs=>obtain⟨_,_,o,_,_,e,_⟩:=x;exact⟨_,e⟩
 | set S n=>obtain⟨o,_,_,_,e,_⟩:=x;exact⟨_,e⟩
 | ins C dx fs=>obtain⟨_,_,_,e,_⟩:=x;exact⟨_,e⟩
 | own y=>obtain⟨_,e⟩:=x;exact⟨_,e⟩
 | xd fs=>obtain⟨_,⟨_,_,_,e,_⟩,_⟩:=x;exact⟨_,e⟩
 | Xd lo hi=>obtain⟨_,_,_,e⟩:=x;exact⟨_,e⟩
 | xm ob u=>obtain⟨e,_⟩:=x;exact⟨_,e⟩
 | zZ q=>obtain⟨_,e,_⟩:=x;exact⟨_,e⟩
 | Xc f y=>exact⟨_,show h.get? a=some _ from x⟩
 | ext φ=>obtain⟨_,⟨_,e⟩,_⟩:=x;exact⟨_,e⟩
section
variable {P:Program} {w:World} {K:W.Frag} {mg:Str->Option Value} {base:Heap} {N:List Str} {qual:Str} {scope:Scope} {f:Addr} {cd:Value} {A:Around} {aC:List Env} {s:Shared} {H:Hp} {E E1:XK} {ah:List (Addr×Obj)} {σ:St} {H1:Hp} {s1 s':Shared} {e:Value}
def Cn(I:Inv (fq (ik P w) P w K mg base N qual scope f cd A aC s H E) ah σ H1 s1){b:Addr}{ob:Obj}(q:s.heap.get? b=some ob)(hb:b∉lL aC):b∉lL (envOfC qual scope s.heap.objs.size f cd::aC):=λhm=>by
 rcases aG.mp (I.vq b hm)with z | z
 ·exact absurd (aI q) (by rw[z];exact fJ _)
 ·exact hb z
def yb(I:Inv (fq (ik P w) P w K mg base N qual scope f cd A aC s H E) ah σ H1 s1)(h:ik P w (envOfC qual scope s.heap.objs.size f cd::aC) H1 s1 E1 e s')(hE:∀cls H2,E1 cls none H2->Dm H H2/\E cls none H2) :
  (fq (ik P w) P w K mg base N qual scope f cd A aC s H E).xe e s':=by
 obtain⟨a,cls,a0,B,H2,rfl,Jq,hb,un,hok,sm,he,P7,hB,hU⟩:=h;obtain⟨U6,hE⟩:=hE cls H2 he;have I2:=I.MP Jq un hok hb (λb z=>absurd z (by simp))
 refine wpAny_leaves_onW I.ok.frames rfl P7 λh' P8 up=>?_
 have hU':∀b ob,s.heap.get? b=some ob->H b=none->b∉lL aC->B.get? b=some ob:=λb ob q n hb=>hU b ob (I.base.keep b ob q n hb (by simp[fq])) (I.base.free b ob q n (by simp[fq])) (Cn I q hb)
 exact⟨a,cls,a0,B,H2,rfl,Jq.trans I.os,hb,Hd I2.base U6 hB hU' P8.1 P7.2.2.1.2.2 up,Cm hok hB P7.1 P8.1,U6,hE,P8,hB,hU'⟩
def Co{h1:Heap}{a:Addr}{cls:Value}{vs:List Value}(I:Inv (fq (ik P w) P w K mg base N qual scope f cd A aC s H E) ah σ H1 s1)(hm:Heap.MadeExcOf s1.heap h1 a cls vs)(U6:Dm H H1)(hE:E cls none H1) :
  (fq (ik P w) P w K mg base N qual scope f cd A aC s H E).xe (.ref a) {s1 with heap:=h1}:=by
 have hB:∀b o,H1 b=some o->∃ob,(W.hideAll s1.heap (lL (envOfC qual scope s.heap.objs.size f cd::aC))).get? b=some ob:=λb o e=>by
  obtain⟨ob,q⟩:=Ea (I.hok b o e);exact⟨ob,W.hideAll_get _ q λhb=>by
   have:=I.vt b hb;rw[e]at this;cases this⟩
 have hU:∀b ob,s.heap.get? b=some ob->H b=none->b∉lL aC->(W.hideAll s1.heap (lL (envOfC qual scope s.heap.objs.size f cd::aC))).get? b=some ob:=λb ob q n hb =>
  W.hideAll_get _ (I.base.keep b ob q n hb (by simp[fq])) (Cn I q hb)
 refine wpAny_leaves_madeW I.ok.frames rfl (λb o q=>W.of_hideAll _ q) (W.funFrames_hide I.stack λenv he b hb=>pF.mpr ⟨env,he,hb⟩) hm λh' t P7 au tn up=>?_
 refine⟨a,cls,.ref t,_,H1,rfl,I.os,I.bare,Hd (I.base.trans (Un.kept hm.keeps)) U6 hB hU P7.1 (I.funs.of_keeps λb o q _=>⟨o,hm.keeps b o q,rfl⟩) up,Cm (I.hok.kept hm.keeps) hB (λb o q=>hm.keeps b o (W.of_hideAll _ q)) P7.1,U6,hE,P7,hB,hU⟩
end
def vV(K:W.Frag)(f:Addr)(cV:Value):Prop:=∃oc od fd p8,K.lookup f=some ⟨oc,od,.func fd,p8⟩/\fd.code=cV
def Lh{P:Program}{w:World}{K:W.Frag}{mg:Str->Option Value}{base:Heap}{x qual:Str}{st:Stmt}{f:Addr}{fd:FuncData}{N ps:List Str}{k:Nat}{sp:Sp}(F:MH K x qual st f fd)(S:cN N ps (aw st))(len:∀vs H Q E,sp vs H Q E->vs.length=ps.length)
  (hbody:∀(cV:Value) (A:Around) (aC:List Env) (s:Shared) (H:Hp) (vs:List V) (Q:VK) (E:XK),vV K f cV->c7 k (A.deeper (envOfC qual (aw st) s.heap.objs.size f cV))->sp vs H Q E ->
   ∃t,PSs (fq (ik P w) P w K mg base N qual (aw st) f cV A aC s H E) (cj st) t/\t {nx:=λ_ H'=>Q .aL H',rt:=Q} (start N vs) H):FnOk P w K mg base (ik P w) (k+1) f fd ps sp:=by
 obtain⟨oc,od,kV,doc,pm,an,cV,ct,p8,rfl,lk,w6⟩:=F.ex;exact MU lk w6 S len λA aC s H vs Q E hr MV=>hbody cV A aC s H vs Q E ⟨oc,od,_,p8,lk,rfl⟩ hr MV
noncomputable def sL(H:Hp)(μ:List Addr):Hp:=λb=>if b∈μ then none else H b
section
variable {K:W.Frag} {af H H':Hp} {ag F F':Fz} {h h':List aj}
def Eb{μ:List Addr}{b:Addr}{o:HO}(e:sL H μ b=some o):H b=some o/\b∉μ:=by
 unfold sL at e;split at e
 ·cases e
 ·grind
def Ec{μ:List Addr}{b:Addr}(e:sL H μ b=none):H b=none\/b∈μ:=by
 unfold sL at e;split at e
 ·grind
 ·grind
def lG.enter(C:lG K af ag F h H):lG K (sL H F.μ) F F h H/\∀b o,H b=some o->sL H F.μ b=some o\/∃n:Nat,F.μ[n]?=some b:=by
 refine⟨⟨C.sub,λb o e=>(Eb e).1,Gr.refl F,λa o e=>.inl e,λn a e=>⟨if_pos (uM e),(C.new n a e).2⟩,C.hl,C.nd,C.cell⟩,λb o e=>?_⟩
 by_cases hb:b∈F.μ
 ·obtain⟨n,hn⟩:=uL.mp hb;exact .inr ⟨n,hn⟩
 ·exact .inl (by unfold sL;rw[if_neg hb];exact e)
def lG.leave(C:lG K af ag F h H)(D:lG K (sL H F.μ) F F' h' H'):lG K af ag F' h' H':=by
 have none_of:∀a,sL H F.μ a=none->af a=none:=λa e=>by
  rcases Ec e with z | z
  ·exact C.keep.free z
  ·obtain⟨n,hn⟩:=uL.mp z;exact(C.new n a hn).1
 refine⟨D.sub,λb o e=>D.keep b o ?_,C.base.trans D.base,λa o e=>?_,λn a e=>⟨none_of a (D.new n a e).1,(D.new n a e).2⟩,D.hl,D.nd,D.cell⟩
 ·unfold sL;rw[if_neg λhb=>?_]
  ·exact C.keep b o e
  ·obtain⟨n,hn⟩:=uL.mp hb;rw[(C.new n b hn).1]at e;cases e
 ·rcases D.fresh a o e with z | z
  ·exact C.fresh a o z
  ·grind
end
abbrev j7:=List PV->List aj->Option (Rs PV×List aj)
def Zr(K:W.Frag)(af:Hp)(F:Fz)(h':List aj)(Q:VK)(E:XK):Rs PV->Prop
 | .ok p=>∀v F' H',lG K af F F' h' H'->bj K F' p v->Q v H'
 | .ex _ C=>∀cls F' H',lG K af F F' h' H'->ClsAt K C cls->E cls none H'
def tY(K:W.Frag)(n:Nat)(f:j7):Sp:=λvs H Q E=>∃af F h ps r h',lG K af F F h H/\(∀b o,H b=some o->af b=some o\/∃n:Nat,F.μ[n]?=some b)/\ay K F ps vs/\ps.length=n/\f ps h=some (r,h')/\Zr K af F h' Q E r
noncomputable def gk(n:Nat)(ps:List PV):List (Option PV):=ps.map some++List.replicate (n-ps.length) none
noncomputable def Nd:Rs dJ×b8->Option (Rs PV×List aj)
 | (.ok (.rt p),st)=>some (.ok p,st.h)
 | (.ok .nx,st)=>some (.ok .aL,st.h)
 | (.ex m C,st)=>some (.ex m C,st.h)
 | _=>none
def gW(fb:Gx dJ)(n:Nat):j7:=λps h=>(fb ⟨gk n ps,h⟩).bind Nd
def yc{K:W.Frag}{F:Fz}{ps:List PV}{vs:List V}{N:List Str}(b:ay K F ps vs):Lc K F (gk N.length ps) (start N vs) where
 av:=λi p e=>by
  unfold gk at e;unfold start;by_cases hi:i<ps.length
  ·rw[fB (by simpa using hi),cY]at e
   cases z:ps[i]? with
   | none=>rw[z]at e;cases e
   | some q =>
    rw[z]at e;cases e;obtain⟨v,h1,h2⟩:=b.get z;refine⟨v,?_,h2⟩;rw[fB (by simpa using (b.length▸hi)),cY,h1]
    rfl
  ·rw[jl (by simpa using hi),List.getElem?_replicate]at e
   split at e<;>cases e
 len:=by unfold gk start;simp[b.length]
def Cp{K:W.Frag}{af H H':Hp}{F F':Fz}{h':List aj}(full:∀b o,H b=some o->af b=some o\/∃n:Nat,F.μ[n]?=some b)(D:lG K af F F' h' H'):Dm H H':=λb o e=>by
 rcases full b o e with z | ⟨n,hn⟩
 ·exact⟨o,D.keep b o z⟩
 ·exact(D.new n b (D.base.m n b hn)).2
def P9{P:Program}{w:World}{K:W.Frag}{mg:Str->Option Value}{base:Heap}{x qual:Str}{st:Stmt}{f:Addr}{fd:FuncData}{N ps:List Str}{k:Nat}{fb:Gx dJ}(F:MH K x qual st f fd)(S:cN N ps (aw st))
  (hbody:∀(cV:Value) (A:Around) (aC:List Env) (s:Shared) (H:Hp) (E:XK),vV K f cV->c7 k (A.deeper (envOfC qual (aw st) s.heap.objs.size f cV))->∀(af:Hp) (ag:Fz),
   PSs (fq (ik P w) P w K mg base N qual (aw st) f cV A aC s H E) (cj st) (tS (fq (ik P w) P w K mg base N qual (aw st) f cV A aC s H E) af ag fb)):FnOk P w K mg base (ik P w) (k+1) f fd ps (tY K ps.length (gW fb N.length)):=by
 refine Lh F S (by rintro vs H Q E ⟨_,_,_,_,_,_,_,_,b,hl,_⟩;rw[<-b.length];exact hl) λcV A aC s H vs Q E Xz hr z9=>?_
 obtain⟨af,F,h,as,r,h',C,full,b,hl,hf,res⟩:=z9;refine⟨_,hbody cV A aC s H E Xz hr af F,F,⟨gk N.length as,h⟩,⟨C,yc b⟩,?_⟩;obtain⟨q,e1,e2⟩:=aO hf;refine⟨q,e1,?_⟩;rcases q with⟨f | ⟨m,c⟩,st⟩
 ·cases f with
  | rt=>cases e2;exact λv F' H' C' g b'=>res v F' H' C' b'
  | nx=>cases e2;exact λF' bF H' R g=>res .aL F' H' R.c (cW.mpr rfl)
  | _=>cases e2
 ·cases e2;cases m with
  | true=>exact λF' bF H' ah s1 h1 a cls vs R sf I hc hm=>Co I hm (Cp full R.c) (res cls F' H' R.c hc)
  | false=>exact λbF ah H1 s1 e s' I h=>yb I h (by rintro cls H2 ⟨hc,F',R,sf⟩;exact⟨Cp full R.c,res cls F' H2 R.c hc⟩)
mutual
def noRef:PV->Bool
 | .ref _=>false
 | .nd _ ps=>ao ps
 | _=>true
def ao:List PV->Bool
 | []=>true
 | p::ps=>noRef p&&ao ps
end
section
variable {K:W.Frag} {F:Fz} {μ:List Addr}
mutual
theorem bj.any:∀{p:PV} {v:V},noRef p=true->bj K F p v->bj K ⟨F.F,μ⟩ p v
 | .aL,_,_,b=>cW.mpr (cW.mp b)
 | .bl _,_,_,b=>bz.mpr (bz.mp b)
 | .int _,_,_,b=>aE.mpr (aE.mp b)
 | .str _,_,_,b=>bN.mpr (bN.mp b)
 | .fn _,_,_,b=>qC.mpr (qC.mp b)
 | .ref _,_,h,_=>by simp[noRef]at h
 | .nd k ps,_,h,b=>by
  obtain⟨a,vs,h1,h2,h3⟩:=iI.mp b;exact iI.mpr ⟨a,vs,h1,h2,ay.any h h3⟩
theorem ay.any:∀{ps:List PV} {vs:List V},ao ps=true->ay K F ps vs->ay K ⟨F.F,μ⟩ ps vs
 | [],_,_,b=>by rw[b.cA];exact .nil
 | _::_,_,h,b=>by
  simp only[ao,aH]at h;obtain⟨v,r,rfl,b1,b2⟩:=b.bV;exact .cons (b1.any h.1) (ay.any h.2 b2)
end
end
def nK(h:List aj):Nat->PV->Option PV
 | 0,p=>if noRef p=true then some p else none
 | n+1,p=>if noRef p=true then some p else match p with
  | .ref m=>(h[m]?).bind λc=>if live c=true then(dD (nK h n) c.ps).map (.nd c.k)else none
  | .nd k ps=>(dD (nK h n) ps).map (.nd k)
  | _=>none
open Classical in
noncomputable def km (F:Fz) (h:List aj) (H:Hp):Hp:=λa=>match F.F a with
 | some o=>some o
 | none=>if(∃(n:Nat) (c:aj),F.μ[n]?=some a/\h[n]?=some c/\live c=true)then H a else none
section
variable {K:W.Frag} {af H:Hp} {ag F:Fz} {h:List aj}
def ir{a:Addr}{o:HO}(e:F.F a=some o):km F h H a=some o:=by unfold km;rw[e]
def Ed{a:Addr}{n:Nat}{c:aj}(e:F.F a=none)(h1:F.μ[n]?=some a)(h2:h[n]?=some c)(h3:live c=true):km F h H a=H a:=by
 unfold km;rw[e];exact if_pos ⟨n,c,h1,h2,h3⟩
def yd{a:Addr}{o:HO}(e:km F h H a=some o):F.F a=some o\/(H a=some o/\∃n:Nat,F.μ[n]?=some a):=by
 unfold km at e;split at e
 ·grind
 ·split at e
  ·grind
  ·cases e
def lG.nK(C:lG K af ag F h H)(μ:List Addr):∀(n:Nat) (p q:PV) (v:V),nK h n p=some q->bj K F p v->bj K ⟨km F h H,μ⟩ q v:=by
 have keep:∀{p:PV} {v:V},noRef p=true->bj K F p v->bj K ⟨km F h H,μ⟩ p v:=λhn b =>
  bj.mono (F:=⟨F.F,μ⟩) (F':=⟨km F h H,μ⟩) ⟨λb o e=>ir e,λ_ _ e=>e⟩ (b.any hn)
 intro n;induction n with
 | zero =>
  intro p q v e b;obtain⟨hn,rfl⟩:=aD e;exact keep hn b
 | succ n ih =>
  intro p q v e b;unfold U.nK at e;split at e
  ·grind
  ·have list:∀(ps qs:List PV) vs,dD (U.nK h n) ps=some qs->ay K F ps vs->ay K ⟨km F h H,μ⟩ qs vs:=by
    intro ps;induction ps with
    | nil=>intro qs vs e b;cases e;rw[b.cA];exact .nil
    | cons p ps ih2 =>
     intro qs vs e b;obtain⟨y,r,e1,e2,rfl⟩:=fL e;obtain⟨v,w,rfl,b1,b2⟩:=b.bV;exact .cons (ih p y v e1 b1) (ih2 r w e2 b2)
   split at e
   ·obtain⟨c,e1,e⟩:=aO e;obtain⟨hl,e⟩:=bS e;obtain⟨qs,e2,rfl⟩:=aQ e;obtain⟨a,h1,h2⟩:=dk.mp b;obtain⟨hF,vs,h3,h4⟩:=C.cell _ c a e1 h1 hl;exact iI.mpr ⟨a,vs,h2,h3.to (λb o e=>ir e) (λo e=>by rw[show(Fz.mk (km F h H) μ).F a=km F h H a from rfl,Ed hF h1 e1 hl];exact e) (λz=>by cases z),list _ _ _ e2 h4⟩
   ·obtain⟨qs,e2,rfl⟩:=aQ e;obtain⟨a,vs,h1,h2,h3⟩:=iI.mp b;exact iI.mpr ⟨a,vs,h1,h2.to (λb o e=>ir e) (λo e=>ir e) id,list _ _ _ e2 h3⟩
   ·cases e
end
section
variable {X:Cx} {af:Hp} {ag:Fz} {e:Expr} {es:List Expr} {ts:Gx (List PV)} {pos p:Pos} {k n:Nat} {f:Addr} {fd:FuncData} {ps:List Str} {x:Str} {g:j7}
def o7{CX:Dq}{sp:Sp}{E:XK}{ah:List (Addr×Obj)}{σ:St}{H:Hp}{s:Shared}{Q:VK}{us:List Value}{vs:List V}(F:FnOk X.prog X.w X.K X.mg X.base CX k f fd ps sp)(hr:c7 k X.A)(hb:cM X.K fd ps [])(hx:∀e s',CX X.stack H s E e s'->X.xe e s')
  (I:Inv X ah σ H s) (r:Vals vs us) (h:sp vs H Q E):wpAny (model X.prog X.w) X.A (call (.ref f) us) (EP X ah σ Q) X.xe s:=by
 have Sv:=hb s us I.oj (by rw[c6,<-r.length];exact F.len _ _ _ _ h)
 rw[c6]at Sv;refine wpAny_call (pX (F.run X.A X.stack s H ⟨us,[]⟩ us vs Q E hr I.OU Sv r h) λr s' hq=>?_)
 cases r with
 | error e=>exact hx e s' hq
 | ok fl =>
  cases fl with
  | ret u=>exact I.after hq
  | next=>exact False.elim hq
  | brk=>exact False.elim hq
  | cont=>exact False.elim hq
noncomputable def U7:Rs PV->Rs PV
 | .ok p=>.ok p
 | .ex _ C=>.ex false C
def iu(h:List aj)(p:PV):Option PV:=if h.isEmpty=true then some p else nK h 4 p
def Qa(st:b8):Rs PV×List aj->Option (Rs PV×b8)
 | (.ok p,h)=>(iu h p).map λq=>(.ok q,st)
 | (.ex _ C,_)=>some (.ex false C,st)
def ig(n:Nat)(g:j7)(as:List PV):Gx PV:=λst=>if as.length=n then(g as st.h).map λr=>(U7 r.1,⟨st.ρ,r.2⟩)else none
def jM(n:Nat)(g:j7)(as:List PV):Gx PV:=λst=>if as.length=n/\(st.h.isEmpty || ao as)=true then(g as []).bind (Qa st)else none
def Nf(n:Nat)(g:j7)(ts:Gx (List PV)):Gx PV:=bnd ts (jM n g)
def AM(X:Cx)(f:Addr)(w:List PV->Gx PV):Prop:=∀(af H:Hp) (ag F:Fz) (st:b8) (σ:St) (ah:List (Addr×Obj)) (s:Shared) (Q:VK) (as:List PV) (us:List Value) (vs:List V),Inv X ah σ H s->Rep X.K af ag F st σ H->ay X.K F as vs->Vals vs us->Tx X af ag (bj X.K) F st (w as) σ Q ->
 wpAny (model X.prog X.w) X.A (call (.ref f) us) (EP X ah σ Q) X.xe s
def Qb(G:FnOk X.prog X.w X.K X.mg X.base (ik X.prog X.w) k f fd ps (tY X.K n g))(hr:c7 k X.A)(hb:cM X.K fd ps []):AM X f (ig n g):=by
 rintro af H ag F st σ ah s Q as us vs I R b r ⟨q,e1,e2⟩
 obtain⟨hl,e1⟩:=bS e1;obtain⟨⟨rs,h'⟩,e3,e4⟩:=aQ e1;subst e4;obtain⟨C,full⟩:=R.c.enter;cases rs with
 | ok p'=>exact o7 G hr hb (λe s' hx=>tK ah σ H s e s' I hx) I r ⟨_,F,st.h,as,_,h',C,full,b,hl,e3,λv F' H' D b'=>e2 v H' F' ⟨R.c.leave D,R.l.mono D.base⟩ D.base b'⟩
 | ex m c=>exact thn (o7 (Q:=λ_ _=>False) G hr hb (λe s' hx=>e2 σ ah H s e s' I hx) I r ⟨_,F,st.h,as,_,h',C,full,b,hl,e3,λcls F' H' D hc=>⟨hc,F',⟨R.c.leave D,R.l.mono D.base⟩,D.base⟩⟩) (by rintro v s3 ⟨_,_,_,_,z⟩;exact z.elim)
def Rep.back{K:W.Frag}{af H H1 H':Hp}{ag F F':Fz}{μ:List Addr}{st:b8}{σ:St}{h':List aj}(R:Rep K af ag F st σ H)(hH:cz H H1)(D:lG K H1 ⟨F.F,μ⟩ F' h' H'):Rep K af ag ⟨km F' h' H',F.μ⟩ st σ H'/\Gr F ⟨km F' h' H',F.μ⟩:=by
 have g:cz F.F (km F' h' H'):=λb o e=>ir (D.base.s b o e)
 refine⟨R.after (hH.trans D.keep) g rfl (λb o e=>?_) (λa o e=>?_),g,λ_ _ z=>z⟩
 ·rcases yd e with z | ⟨z,_⟩
  ·exact D.sub b o z
  ·exact z
 ·rcases yd e with z | ⟨_,n,z⟩
  ·exact(D.fresh a o z).imp_right hH.free
  ·exact .inr (hH.free (D.new n a z).1)
def lG.pure{K:W.Frag}{af H:Hp}{ag F:Fz}{h:List aj}(C:lG K af ag F h H):lG K H ⟨F.F,[]⟩ ⟨F.F,[]⟩ [] H :=
 ⟨C.sub,cz.refl H,Gr.refl _,λa o e=>.inl e,λn a e=>by simp at e,rfl,pV,λn c a e=>by simp at e⟩
def ye{K:W.Frag}{H H':Hp}{G F':Fz}{h':List aj}{p q:PV}{v:V}(μ:List Addr)(D:lG K H G F' h' H')(e:iu h' p=some q)(b:bj K F' p v):bj K ⟨km F' h' H',μ⟩ q v:=by
 unfold iu at e;split at e
 ·rename_i z;cases e;have e0:F'.μ=[]:=uE (by rw[<-D.hl,zQ.mp z];rfl)
  exact b.mono ⟨λb o e=>ir e,λn a e=>by rw[e0]at e;simp at e⟩
 ·exact D.nK μ _ _ _ _ e b
def tZ{K:W.Frag}{af H:Hp}{ag F:Fz}{st:b8}{σ:St}{as:List PV}{vs:List V}(R:Rep K af ag F st σ H)(hn:(st.h.isEmpty || ao as)=true)(b:ay K F as vs)(μ:List Addr):ay K ⟨F.F,μ⟩ as vs:=by
 rcases Bool.or_eq_true _ _▸hn with z | z
 ·have e0:F.μ=[]:=uE (by rw[<-R.c.hl,zQ.mp z];rfl)
  exact ay.mono (F:=F) (F':=⟨F.F,μ⟩) ⟨cz.refl _,λn a e=>by rw[e0]at e;simp at e⟩ b
 ·exact b.any z
def U8(G:FnOk X.prog X.w X.K X.mg X.base (ik X.prog X.w) k f fd ps (tY X.K n g))(hr:c7 k X.A)(hb:cM X.K fd ps []):AM X f (jM n g):=by
 rintro af H ag F st σ ah s Q as us vs I R b r ⟨q,e1,e2⟩
 obtain⟨⟨hl,hn⟩,e1⟩:=bS e1;obtain⟨⟨rs,h'⟩,e3,e4⟩:=aO e1;have full:∀b o,H b=some o->H b=some o\/∃n:Nat,(Fz.mk F.F []).μ[n]?=some b:=by grind
 have b3:=tZ R hn b [];cases rs with
 | ok p' =>
  obtain⟨p2,e5,e6⟩:=aQ e4;subst e6;refine o7 G hr hb (λe s' hx=>tK ah σ H s e s' I hx) I r ⟨H,⟨F.F,[]⟩,[],as,_,h',R.c.pure,full,b3,hl,e3,λv F' H' D b'=>?_⟩
  obtain⟨R3,g3⟩:=R.back (cz.refl _) D;exact e2 v H' _ R3 g3 (ye F.μ D e5 b')
 | ex m c =>
  cases e4;refine thn (o7 (Q:=λ_ _=>False) G hr hb (λe s' hx=>e2 σ ah H s e s' I hx) I r ⟨H,⟨F.F,[]⟩,[],as,_,h',R.c.pure,full,b3,hl,e3,λcls F' H' D hc=>?_⟩) (by rintro v s3 ⟨_,_,_,_,z⟩;exact z.elim)
  obtain⟨R3,g3⟩:=R.back (cz.refl _) D;exact⟨hc,_,R3,g3⟩
def He{w:List PV->Gx PV}(G:AM X f w)(hg:Gl X x)(hm:X.mg x=some (.ref f))(hk:W.keepIn X.K (.ref f)=true)(ha:PA X (e::es) (tA X af ag ts))(Aj:(x==("__debug__":Str))=false)
  (he:starEach (e::es) X.env=(false,eval e X.env)::starEach es X.env) (qd:(backTo pos (starEach es X.env)).any (·.1)=false):PE X (.Call (.Name x p) (e::es) [] pos) (tE X af ag (bnd ts w)):=by
 rintro ah s σ H Q I ⟨F1,st,R,h⟩
 refine jq (ld_glob I hg hm ?_ Aj);exact W.callWith_K I.ok.mod.kin hk (thn (ha pos ah s σ H (λvs H2=>∃F2 dE as,Rep X.K af ag F2 dE σ H2/\ay X.K F2 as vs/\Tx X af ag (bj X.K) F2 dE (w as) σ Q) I
  ⟨F1,st,R,h.bnd λas vs F2 dE H2 R2 g2 b2 h2=>⟨F2,dE,as,R2,b2,h2⟩⟩) (by rintro us s1 ⟨vs,H2,I2,r,F2,dE,as,R2,b2,z⟩;exact⟨I2.oj,G _ _ _ _ _ _ _ _ _ _ _ _ I2 R2 b2 r z⟩)) he qd
end
noncomputable def U9(T:String):Kd->Bool
 | .lst=>T=="list"
 | .eS _ _=>T=="dict"
 | _=>false
def tyG(T:String)(p:PV):Gx Unit:=hp λh=>(cQ h p).bind λq=>if U9 T q.1=true then some ()else none
section
variable {X:Cx} {af:Hp} {ag:Fz} {e o:Expr} {es:List Expr} {fo fe:Gx PV} {ts:Gx (List PV)} {pos eR iM:Pos} {T id:String} {name:Str} {r:V->List V->Hp->VK->Prop}
def Rep.tyV{K:W.Frag}{st:b8}(R:Rep K af ag F st σ H)(e:cQ st.h p=some (k,ps))(ht:U9 T k=true)(b:bj K F p v):L2.tyV K T v H:=by
 obtain⟨a,vs,rfl,h2,h3⟩:=R.at e b
 match k,ht,h2 with
 | .lst,ht,h2=>exact .inl ⟨aV ht,vs,iH.sq h2⟩
 | .eS false ks,ht,⟨kvs,h2,_⟩=>exact .inr (.inr (.inl ⟨aV ht,.inl ⟨kvs,h2⟩⟩))
 | .eS true ks,ht,⟨xs,h2,_⟩=>exact .inr (.inr (.inl ⟨aV ht,.inr ⟨xs,h2⟩⟩))
def Jt(T:String)(w:PV->List PV->Gx PV)(fo:Gx PV)(ts:Gx (List PV)):Gx PV:=bnd fo λp=>bnd (tyG T p) λ_=>bnd ts λas=>w p as
def XA(X:Cx)(r:V->List V->Hp->VK->Prop)(w:PV->List PV->Gx PV):Prop:=∀(af H:Hp) (ag F:Fz) (st:b8) (σ:St) (p:PV) (as:List PV) (v:V) (ws:List V) (Q:VK),Tx X af ag (bj X.K) F st (w p as) σ Q->Rep X.K af ag F st σ H->bj X.K F p v->ay X.K F as ws->r v ws H Q
def Hf(hw:XA X r w)(h:tE X af ag (Jt T w fo ts) σ H Q):tBM X.K T r (tE X af ag fo) (tA X af ag ts) σ H Q:=by
 obtain⟨F,st,R,h⟩:=h;refine⟨F,st,R,h.bnd λp v F1 st1 H1 R1 g1 b1 h1=>?_⟩
 obtain⟨u,e,z⟩:=At.hp (At.bnd h1);obtain⟨⟨k,ps⟩,e1,e2⟩:=aO e;obtain⟨hk,_⟩:=aD e2;refine⟨R1.tyV e1 hk b1,F1,st1,R1,Tx.bnd z λas ws F2 dE H2 R2 g2 b2 h2=>hw af H2 ag F2 dE σ p as v ws Q h2 R2 (b1.mono g2) b2⟩
def Li(hw:XA X r w)(h:tE X af ag (Jt T w fo (cD [])) σ H Q):Ua X.K T r (tE X af ag fo) σ H Q:=by
 obtain⟨F,st,R,h⟩:=h;refine⟨F,st,R,h.bnd λp v F1 st1 H1 R1 g1 b1 h1=>?_⟩
 obtain⟨u,e,z⟩:=At.hp (At.bnd h1);obtain⟨⟨k,ps⟩,e1,e2⟩:=aO e;obtain⟨hk,_⟩:=aD e2;exact⟨R1.tyV e1 hk b1,hw af H1 ag F1 st1 σ p [] v [] Q (At.cD (At.bnd z)) R1 b1 .nil⟩
def Hg(hg:GQ X.K r g):XA X r (fu g):=λ_ _ _ _ _ _ _ _ _ _ _ h R bp ba=>Tx.mut hg h R bp ba
def Qc:XA X (PM X.K) oB:=λ_ _ _ _ _ _ _ _ _ _ _ h R bp ba=>Tx.ext h R bp ba
def yf(m:Str):Option (String×(PV->List PV->Gx PV)) :=
 if m==("append":Str)then some ("list",fu (dN fw))
 else if m==("extend":Str)then some ("list",oB)
 else none
noncomputable def Hh(m:Str):Option (String×(PV->List PV->Gx PV)) :=
 none
def Zs(hu:X.A.units+1150<cLine)(ht:yf name=some (T,w))(ho:PE X o (tE X af ag fo))(ha:PA X (e::es) (tA X af ag ts))(lR:attributeBase o name X.env (eval o X.env)=eval o X.env)
  (Kn:((backTo iM (starEach (e::es) X.env)).all (λx=>!x.1)&&(backToKw iM (keywordEach [] X.env)).all (λx=>x.1.isSome)&&decide ((e::es).length+([]:List Keyword).length+(if([]:List Keyword).isEmpty then 0 else 1)<30))=true)
  (lS:(eR.endLine==iM.line)=true) (sg:starEach (e::es) X.env=(false,eval e X.env)::starEach es X.env) (qd:(backTo iM (starEach es X.env)).any (·.1)=false):PE X (.Call (.Attribute o name eR) (e::es) [] iM) (tE X af ag (Jt T w fo ts)):=by
 unfold yf at ht;split at ht
 ·rename_i hx;cases ht;have hx:=aV hx;subst hx;exact(MW zt PySem.F.slot_list_append PySem.F.type_list_append DJ ho ha lR Kn lS sg qd).imp λ_ _ _ h=>Hf (Hg K2) h
 ·split at ht
  ·rename_i hx;cases ht;have hx:=aV hx;subst hx;exact(MW zt PySem.F.slot_list_extend PySem.F.type_list_extend PN ho ha lR Kn lS sg qd).imp λ_ _ _ h=>Hf Qc h
  ·cases ht
def Va(ht:Hh name=some (T,w))(ho:PE X o (tE X af ag fo))(lR:attributeBase o name X.env (eval o X.env)=eval o X.env)(lS:(eR.endLine==iM.line)=true) :
  PE X (.Call (.Attribute o name eR) [] [] iM) (tE X af ag (Jt T w fo (cD []))):=by
 cases ht
def nM(po pi pv:PV):b8->Option b8:=λst=>(jf st.h po).bind λc=>match c.2.k with
 | .lst=>(nF pi).bind λi=>(DI c.2.ps.length i).map λj=>⟨st.ρ,st.h.set c.1 ⟨.lst,c.2.ps.set j pv⟩⟩
 | .eS t ks=>(fV t pi).bind λk=>if ks.length<ic then some ⟨st.ρ,st.h.set c.1 (iO t k pv ks c.2.ps)⟩else none
 | _=>none
def Zt(K:W.Frag):FT:=λo i v H Q=>∃af ag F st τ po pi pv st',nM po pi pv st=some st'/\Rep K af ag F st τ H/\bj K F po o/\bj K F pi i/\bj K F pv v/\∀H' F',Rep K af ag F' st' τ H'->Gr F F'->Q H'
def Vb(hu:X.A.units+1150<cLine):FU X (Zt X.K):=by
 rintro ah s σ H o i v ov iv u Q I ro ri rv ⟨af,ag,F,st,τ,po,pi,pv,st',e,R,bo,bi,bv,k⟩
 obtain⟨⟨n,c⟩,e1,e0⟩:=aO e;clear e;have e:=e0;clear e0;obtain⟨rfl,hc,hl⟩:=gB e1;obtain⟨a,ha,rfl⟩:=dk.mp bo;obtain⟨_,vs,h2,h3⟩:=R.c.cell n c a hc ha hl;split at e
 ·rename_i hk;obtain⟨j,e2,e⟩:=aO e;obtain⟨m,e3,rfl⟩:=aQ e;rw[fM e2]at bi;have hk:=hk;rw[hk]at h2;refine Gh ah s σ H _ _ v ov iv u Q I ro ri rv ⟨a,vs,j,m,rfl,aE.mp bi,h2,by rw[<-h3.length];exact e3,k _ F (R.put hc hl ha aB (h3.set bv m)) (Gr.refl _)⟩
 ·rename_i t ks hk;have hk:=hk;obtain⟨kk,e2,e⟩:=aO e;obtain⟨hz,rfl⟩:=aD e;rw[hk]at h2;cases t with
  | false =>
   obtain⟨kvs,g1,g2,g3⟩:=h2;obtain⟨j,rfl,rfl⟩:=mn e2 bi;rw[<-g3]at h3;obtain⟨mR,vG,p1,p2,p3⟩:=GN (j:=j) bv h3;have eX:kvs.length<sizeLine:=by
    have:ks.length=kvs.length:=by grind
    exact cm (by grind) (d7 (aA _))
   rw[g2]at p1;refine PQ ah s σ H _ _ v ov iv u Q I ro ri rv ⟨a,kvs,j,rfl,rfl,g1,eX,k _ F ?_ (Gr.refl _)⟩;simp only[p1];exact R.put hc hl ha ⟨_,aB,p2,rfl⟩ p3
  | true =>
   obtain⟨xs,g1,g2,g3,g4⟩:=h2;obtain⟨cc,rfl,Oi⟩:=jJ e2 bi;refine PR (by lia) ah s σ H _ _ v ov iv u Q I ro ri rv ⟨a,cc,xs,kk,rfl,rfl,g1,λz hz=>ez R.sub (g2 z hz),ez R.sub Oi,(by
    have:ks.length=xs.length:=by grind
    exact cm (by grind) (d7 (aA _))),λr hr=>?_⟩
   obtain⟨mR,vG,xc,p1,p2,p3,p4,p5⟩:=GO bv hr Oi g2 h3 g4;rw[g3]at p1;refine k _ F ?_ (Gr.refl _);simp only[p1];exact R.put hc hl ha ⟨_,aB,p3,p2,p5⟩ p4
 ·cases e
def Qd(fv fo fi:Gx PV):Gx dJ:=bnd fv λv=>bnd fo λo=>bnd fi λi=>stp (nM o i v)
def Vc(hu:X.A.units+1150<cLine)(he:PE X e (tE X af ag fv))(ho:PE X o (tE X af ag fo))(hi:PE X k (tE X af ag fi))
  (ha:∀v,assign (.Subscript o k D7) X.env v=(do
   let ov <-holding [v] (eval o X.env)
   let iv <-holding [v,ov] (eval k X.env)
   standAt D7
   holding [v,ov,iv] (setItem ov iv v)
   release [v,ov,iv] []))
  (hs:swapsWithSole [.Subscript o k D7] e pos.line X.env=pure false) (hw:swappedStores [.Subscript o k D7] e X.env=pure none):PS X (.Assign [.Subscript o k D7] e pos) (tS X af ag (Qd fv fo fi)) :=
 (FW he (Oz ho hi (Vb hu) ha) hs hw rfl).imp λD σ H ⟨F,st,R,h⟩=>⟨F,st,R,h.bnd λpv v F1 st1 H1 R1 g1 b1 h1=>⟨F1,st1,R1,h1.bnd λpo o F2 dE H2 R2 g2 b2 h2=>⟨F2,dE,R2,h2.bnd λpi i F3 w9 H3 R3 g3 b3 h3=>by
  obtain⟨st',e,z⟩:=h3.stp;exact⟨af,ag,F3,w9,σ,po,pi,pv,st',e,R3,b2.mono g3,b3,b1.mono (g2.trans g3),λH' F' R' g'=>z F' σ H' R' g'⟩⟩⟩⟩
def Lj(t:Bool):Gx PV:=jH ⟨.eS t [],[]⟩
def Vd(t:Bool):PE X (.Dict [] [] pos) (tE X af ag (Lj t)):=by
 cases t with
 | false=>exact GP.imp (by rintro σ H Q ⟨F,st,R,h⟩ p hp;exact Tx.jH h R hp ⟨[],aB,rfl,rfl⟩ .nil)
 | true=>exact Kq.imp (by rintro σ H Q ⟨F,st,R,h⟩ p hp;exact Tx.jH h R hp ⟨[],aB,(λ_ z=>nomatch z),rfl,.nil⟩ .nil)
end
def Cq(K:W.Frag)(mg:Str->Option Value)(P:Params)(T:Str)(rows:List (Str×Str)):Prop :=
 ∃a es n,mg T=some (.ref a)/\K.lookup a=some ⟨.type "dict",none,.dict es n,#[]⟩/\W.KeysLit P es.toList/\∀k fn,rows.lookup k=some fn->∃f,W.nsIn K a k=some (some (.ref f))/\mg fn=some (.ref f)/\W.nsIn K mainGlobals fn=some (some (.ref f))
def vW(K:W.Frag)(mg:Str->Option Value)(P:Params)(T:Str)(rows:List (Str×PV)):Prop :=
 ∃a es n,(a==sysModules)=false/\mg T=some (.ref a)/\K.lookup a=some ⟨.type "dict",none,.dict es n,#[]⟩/\W.KeysLit P es.toList/\∀k p,rows.lookup k=some p->∃u v,W.nsIn K a k=some (some u)/\RelV v u/\∀F,bj K F p v
def Zu(K:W.Frag)(a:Addr):R2:=λx y H Q=>∃k u v,x=.ref a/\y=.str k/\W.nsIn K a k=some (some u)/\RelV v u/\Q v H
noncomputable def Qe:PV->Option Str | .str x=>some x | _=>none
def t8(h:Qe p=some i):p=.str i:=by
 cases p<;>first | (cases h;rfl) | cases h
section
variable {X:Cx} {af:Hp} {ag:Fz} {e ke:Expr} {es:List Expr} {fk fe ff:Gx PV} {ts:Gx (List PV)} {pos p sp:Pos} {T:Str}
def Hj{es:Array DictEntry}(hl:X.K.lookup a=some ⟨.type "dict",none,.dict es n,#[]⟩)(hk:W.KeysLit X.w.params es.toList):Ss X (Zu X.K a):=by
 rintro value slice ah s σ H x y v u Q I rx ry ⟨k,u',v',ex,ey,e,rv,q⟩ hs
 subst ex ey;cases rx;obtain⟨t,rfl⟩:=ry;have hm:=W.mapOf_K (prog:=X.prog) I.oj hl hk;exact nz hm.typeIs slot_dict_getitem.lookup (wpAny_getItem_of (strKind_is X.prog X.w k t) hm (W.find_K hl e) ⟨v',H,I.tok _,rv,q⟩) hs
def Ee(kY:Str->Option PV)(fk:Gx PV):Gx PV:=bnd fk λq=>jd ((Qe q).bind kY)
def Ve(ht:vW X.K X.mg X.w.params T rows)(hg:Gl X T)(hk:PE X ke (tE X af ag fk))(hs:lP ke)(Aj:(T==("__debug__":Str))=false):PE X (.Subscript (.Name T p) ke sp) (tE X af ag (Ee (λk=>rows.lookup k) fk)):=by
 obtain⟨a,So,n,_,t1,t2,t3,t4⟩:=ht;refine(Gg (Hj t2 t3) (vw (v:=.ref a) hg t1 rfl Aj) hk hs).imp λσ H Q ⟨F,st,R,h⟩=>?_
 refine⟨F,st,R,h.bnd λpk v F1 st1 H1 R1 g1 b1 h1=>?_⟩
 obtain⟨q,e1,z⟩:=h1.jd;obtain⟨k,e2,e3⟩:=aO e1;rw[t8 e2]at b1;obtain⟨u,w,n1,n2,n3⟩:=t4 k q e3;exact⟨k,u,w,rfl,bN.mp b1,n1,n2,z _ H1 F1 R1 (Gr.refl _) (n3 F1)⟩
def Vf(ht:Cq X.K X.mg X.w.params T rows)(hg:Gl X T)(hk:PE X ke (tE X af ag fk))(hs:lP ke)(Aj:(T==("__debug__":Str))=false):PE X (.Subscript (.Name T p) ke sp) (tE X af ag (Ee (λk=>(rows.lookup k).map .fn) fk)):=by
 obtain⟨a,So,n,t1,t2,t3,t4⟩:=ht;refine(Gg (Hj t2 t3) (vw (v:=.ref a) hg t1 rfl Aj) hk hs).imp λσ H Q ⟨F,st,R,h⟩=>?_
 refine⟨F,st,R,h.bnd λpk v F1 st1 H1 R1 g1 b1 h1=>?_⟩
 obtain⟨q,e1,z⟩:=h1.jd;obtain⟨k,e2,e3⟩:=aO e1;obtain⟨fn,e4,rfl⟩:=aQ e3;rw[t8 e2]at b1;obtain⟨f,n1,n2,n3⟩:=t4 k fn e4;exact⟨k,.ref f,.ref f,rfl,bN.mp b1,n1,rfl,z _ H1 F1 R1 (Gr.refl _) (qC.mpr ⟨f,rfl,n3⟩)⟩
def Ng(X:Cx)(fns:List (Str×Nat))(call:Str->j7):Prop:=∀x n,fns.lookup x=some n->∃k f fd ps,FnOk X.prog X.w X.K X.mg X.base (ik X.prog X.w) k f fd ps (tY X.K n (call x))/\c7 k X.A/\X.mg x=some (.ref f)/\W.keepIn X.K (.ref f)=true/\cM X.K fd ps []
noncomputable def XB:PV->Option Str | .fn x=>some x | _=>none
def Hk{p:PV}(h:XB p=some i):p=.fn i:=by
 cases p<;>first | (cases h;rfl) | cases h
def Cr(fns:List (Str×Nat))(call:Str->j7)(ff:Gx PV)(ts:Gx (List PV)):Gx PV:=bnd ff λq=>bnd (jd ((XB q).bind λx=>(fns.lookup x).map λn=>(x,n))) λx=>Nf x.2 (call x.1) ts
def vX(v k:Expr)(sp:Pos)(args:List Expr)(pos:Pos)(env:Env):eval (.Call (.Subscript v k sp) args [] pos) env=(do callWith pos (<-eval (.Subscript v k sp) env) [] (backTo pos (starEach args env)) (backToKw pos (keywordEach [] env))):=rfl
def Lk{call:Str->j7}(To:Ng X fns call)(Gn:∀x a,W.nsIn X.K mainGlobals x=some (some (.ref a))->X.mg x=some (.ref a))(hf:PE X (.Subscript v k sp) (tE X af ag ff))(ha:PA X (e::es) (tA X af ag ts))
  (he:starEach (e::es) X.env=(false,eval e X.env)::starEach es X.env) (qd:(backTo pos (starEach es X.env)).any (·.1)=false):PE X (.Call (.Subscript v k sp) (e::es) [] pos) (tE X af ag (Cr fns call ff ts)):=by
 rintro ah s σ H Q I ⟨F,st,R,h⟩
 rw[vX];refine ai (thn (hf ah s σ H (λv H1=>∃F1 st1 q,Rep X.K af ag F1 st1 σ H1/\bj X.K F1 q v/\Tx X af ag (bj X.K) F1 st1 (bnd (jd ((XB q).bind λx=>(fns.lookup x).map λn=>(x,n))) λx=>Nf x.2 (call x.1) ts) σ Q) I
  ⟨F,st,R,h.bnd λq v F1 st1 H1 R1 g1 b1 h1=>⟨F1,st1,q,R1,b1,h1⟩⟩) λu s1 ⟨x,H1,I1,rx,F1,st1,q,R1,b1,h1⟩=>?_)
 obtain⟨⟨y,n⟩,e1,z⟩:=At.jd (At.bnd h1);obtain⟨y',e2,e3⟩:=aO e1;obtain⟨n',e4,e5⟩:=aQ e3;simp only[jv]at e5;obtain⟨rfl,rfl⟩:=e5;rw[Hk e2]at b1;obtain⟨a,rfl,UE⟩:=qC.mp b1;obtain⟨j,f',fd,ps,G,hr,m1,m2,m3⟩:=To _ _ e4;have:=aZ ((Gn _ a UE).symm.trans m1);cases this;cases rx;exact W.callWith_K I.ok.mod.kin m2 (thn (ha pos ah s1 σ H1 (λvs H2=>∃F2 dE as,Rep X.K af ag F2 dE σ H2/\ay X.K F2 as vs/\Tx X af ag (bj X.K) F2 dE (jM _ _ as) σ Q) I1
  ⟨F1,st1,R1,Tx.bnd z λas vs F2 dE H2 R2 g2 b2 h2=>⟨F2,dE,as,R2,b2,h2⟩⟩) (by rintro us s2 ⟨vs,H2,I2,r,F2,dE,as,R2,b2,z⟩;exact⟨I2.oj,U8 G hr m3 _ _ _ _ _ _ _ _ _ _ _ _ I2 R2 b2 r z⟩)) he qd
noncomputable def yg(f:Str):List Str->List PV->Option PV
 | g::ns,p::ps=>if g=f then some p else yg f ns ps
 | _,_=>none
def Ll(f:Str)(fe:Gx PV):Gx PV:=bnd fe λp=>hp λh=>match cQ h p with
 | some (.ins _ ns,ps)=>yg f ns ps
 | _=>none
theorem qO{K:W.Frag}:∀{fs:List (Str×V)} {ps:List PV} {p:PV},yg f (fs.map (·.1)) ps=some p->ay K F ps (fs.map (·.2))->f∈fs.map (·.1)/\∃v,fs.lookup f=some v/\bj K F p v
 | [],_,_,h,_=>by cases h
 | (g,v)::r,[],_,h,_=>by cases h
 | (g,v)::r,q::ps,p,h,b=>by
  obtain⟨v',w,e,b1,b2⟩:=b.bV;cases e;have h:(if g=f then some q else yg f (r.map (·.1)) ps)=some p:=h
  by_cases hg:g=f
  ·grind
  ·rw[if_neg hg]at h;obtain⟨h1,v2,h2,h3⟩:=qO h b2;have hgf:(f==g)=false:=by grind
   exact⟨cG _ h1,v2,by grind,h3⟩
def Vg(he:PE X e (tE X af ag fe))(hb:attributeBase e f X.env (eval e X.env)=eval e X.env):PE X (.Attribute e f pos) (tE X af ag (Ll f fe)):=(OQ he hb).imp λσ H Q ⟨F,st,R,h⟩=>⟨F,st,R,h.bnd λq v F1 st1 H1 R1 g1 b1 h1=>by
 obtain⟨o,e,z⟩:=h1.hp;split at e
 ·rename_i C ns ps hd;obtain⟨a,vs,rfl,⟨Ca,dx,fs,h2,h3,h4,h5,h6,h7⟩,h8⟩:=R1.at hd b1;subst h6 h7;obtain⟨hm,w,hl,bw⟩:=qO e h8;exact⟨a,Ca,dx,fs,w,rfl,h5,h3,h4 f hm,hl,z _ H1 F1 R1 (Gr.refl _) bw⟩
 ·cases e⟩
noncomputable def jg(f:Str)(q:PV):List Str->List PV->List Str×List PV
 | g::ns,p::ps=>if g=f then(g::ns,q::ps)else(g::(jg f q ns ps).1,p::(jg f q ns ps).2)
 | _,_=>([f],[q])
theorem Cs{K:W.Frag}(bq:bj K F q v):∀{fs:List (Str×V)} {ps:List PV},ay K F ps (fs.map (·.2))->(gU f v fs).map (·.1)=(jg f q (fs.map (·.1)) ps).1/\ay K F (jg f q (fs.map (·.1)) ps).2 ((gU f v fs).map (·.2))/\∀g∈(jg f q (fs.map (·.1)) ps).1,g=f\/g∈fs.map (·.1)
 | [],ps,b=>by
  have e:=uE b.length;subst e;exact⟨rfl,.cons bq .nil,λg hg=>.inl (by simpa[jg]using hg)⟩
 | (g,w)::r,[],b=>by have:=b.length;simp at this
 | (g,w)::r,p::ps,b=>by
  obtain⟨v',w',e,b1,b2⟩:=b.bV;cases e;obtain⟨h1,h2,h3⟩:=Cs bq b2;by_cases hg:g=f
  ·subst hg;have e1:gU g v ((g,w)::r)=(g,v)::r:=if_pos rfl;have e2:jg g q (((g,w)::r).map (·.1)) (p::ps)=(g::r.map (·.1),q::ps):=if_pos rfl;rw[e1,e2];exact⟨rfl,.cons bq b2,λy hy=>.inr hy⟩
  ·have e1:gU f v ((g,w)::r)=(g,w)::gU f v r:=if_neg hg;have e2:jg f q (((g,w)::r).map (·.1)) (p::ps)=(g::(jg f q (r.map (·.1)) ps).1,p::(jg f q (r.map (·.1)) ps).2):=if_neg hg;rw[e1,e2];refine⟨by rw[aP,h1],.cons b1 h2,λy hy=>?_⟩
   rcases aG.mp hy with rfl | hy
   ·grind
   ·grind
def yh(K:W.Frag)(cls:List Str)(flds:List Str):Prop:=∀C,cls.contains C=true->∃Ca,ClsAt K C (.ref Ca)/\sy K Ca/\∀f,flds.contains f=true->gG K Ca f
def ek(cls flds:List Str)(f:Str)(po pv:PV):b8->Option b8:=λst=>(jf st.h po).bind λc=>match c.2.k with
 | .ins C ns=>if(cls.contains C&&flds.contains f&&decide (ns.length<900))=true then some ⟨st.ρ,st.h.set c.1 ⟨.ins C (jg f pv ns c.2.ps).1,(jg f pv ns c.2.ps).2⟩⟩else none
 | _=>none
def Lm(cls flds:List Str)(f:Str)(fv fo:Gx PV):Gx dJ:=bnd fv λv=>bnd fo λo=>stp (ek cls flds f o v)
theorem eA{cls flds:List Str}(hc:yh X.K cls flds){po pv:PV}{o v:V}{F F1:Fz}{st st':b8}(R:Rep X.K af ag F st σ H)(b2:bj X.K F1 po o)(g:Gr F1 F)(b1:bj X.K F pv v)(e:ek cls flds f po pv st=some st') :
  ∃a Ca dx fs,o=.ref a/\H a=some (.ins Ca dx fs)/\sy X.K Ca/\gG X.K Ca f/\fs.length<900/\Rep X.K af ag F st' σ (cU H a (.ins Ca dx (gU f v fs)))/\∀n c C ns,jf st.h po=some (n,c)->c.k=.ins C ns->ClsAt X.K C (.ref Ca):=by
  obtain⟨⟨n,c⟩,e1,e0⟩:=aO e;clear e;have e:=e0;clear e0;obtain⟨rfl,EX,hl⟩:=gB e1;obtain⟨a,ha,rfl⟩:=dk.mp (b2.mono g);obtain⟨_,vs,g2',g3⟩:=R.c.cell n c a EX ha hl;split at e
  ·rename_i C ns hk;obtain⟨hq,rfl⟩:=aD e;rw[aH,aH]at hq;rw[hk]at g2';obtain⟨Ca,dx,fs,k1,k2,k3,k4,rfl,rfl⟩:=g2';obtain⟨Cb,m1,m2,m3⟩:=hc C hq.1.1;have eC:Ca=Cb:=by
    have:=k1.symm.trans m1;cases this;rfl
   subst eC;have dX:=iA hq.2;rw[aT]at dX;obtain⟨p1,p2,p3⟩:=Cs b1 g3;refine⟨a,Ca,dx,fs,rfl,k4,k2,m3 f hq.1.2,dX,R.put EX hl ha ⟨Ca,dx,_,k1,k2,λg hg=>?_,aB,p1,rfl⟩ p2,λn c C ns h1 h2=>?_⟩
   ·rcases p3 g hg with rfl | hg
    ·exact m3 _ hq.1.2
    ·exact k3 g hg
   ·cases e1.symm.trans h1;cases hk.symm.trans h2;exact k1
  ·cases e
def Vh{cls flds:List Str}(hc:yh X.K cls flds)(ho:PE X o (tE X af ag fo))(he:PE X e (tE X af ag fv))(hs:swapsWith e (some (.Attribute o f om)) pos.line X.env=pure false):PS X (.Assign [.Attribute o f om] e pos) (tS X af ag (Lm cls flds f fv fo)) :=
 (OR ho he hs).imp λD σ H ⟨F,st,R,h⟩=>⟨F,st,R,h.bnd λpv v F1 st1 H1 R1 g1 b1 h1=>⟨F1,st1,R1,h1.bnd λpo o F2 dE H2 R2 g2 b2 h2=>by
  obtain⟨st',e,z⟩:=h2.stp;obtain⟨a,Ca,dx,fs,k1,k2,k3,k4,k5,k6,_⟩:=eA hc R2 b2 (Gr.refl _) (b1.mono g2) e;exact⟨a,Ca,dx,fs,k1,k2,k3,k4,Nat.le_add_left_of_le k5,z F2 σ _ k6 (Gr.refl _)⟩⟩⟩
end
def Zv(X:Cx)(af:Hp)(ag:Fz)(fa:Addr)(ω:PV->Gx PV):Prop:=∀(H:Hp) (F:Fz) (st:b8) (σ:St) (ah:List (Addr×Obj)) (s:Shared) (Q:VK) (p:PV) (u:Value) (v:V),Inv X ah σ H s->Rep X.K af ag F st σ H->bj X.K F p v->RelV v u->Tx X af ag (bj X.K) F st (ω p) σ Q ->
 wpAny (model X.prog X.w) X.A (call (.ref fa) [u]) (EP X ah σ Q) X.xe s
structure Hl (X:Cx) (af:Hp) (ag:Fz) (n:Nat) (ω:PV->Gx PV):Prop where
 ex:∃fa o u Zw,ag.μ[n]?=some fa/\X.af fa=some (.xm o u)/\o.data=.func Zw/\Zv X af ag fa ω
structure Vi (X:Cx):Prop where
 ex:∃x c T,x∈dI/\W.tabIn X.K x=some (c,T)/\W.codeHdIn X.K c T=true/\X.env.code=.ref c/\X.env.qual++"<lambda>"=JP x
 blt:Gp X.mg X.base
theorem t9{K:W.Frag}:∀ns:List Int,ay K F (ns.map .int) (ns.map V.int)
 | []=>.nil
 | n::r=>.cons (aE.mpr rfl) (t9 r)
section
variable {X:Cx} {af:Hp} {ag:Fz} {e o:Expr} {fe fo:Gx PV} {pos p yi zp ap cp:Pos}
def Ct(h:starEach [e] X.env=(false,eval e X.env)::starEach [] X.env)(hq:wpAny M A (eval e X.env) (λv s1=>Q [v] s1) E s):wpAny M A (spliced (backTo pos (starEach [e] X.env))) Q E s:=by
 rw[h];exact Calls.spliced_cons (thn hq λv s1 q=>Calls.spliced_nil q)
end
end L2.U
namespace PySem
open PyProof.Rows
namespace F
def eZ:entryFor table "dict.update.loop"=some Builtin.«dict.update.loop» := entryFor_of_tree (by kernel_rfl)
def cB:plainId "dict.update.loop"=true:=by decide +kernel
end F
section
variable {prog:Program} {w:World} {K:Type} [DecidableEq K] {knd:KeyKind prog w K} {A:Around} {R:Result->Shared->Prop} {I:Addr} {fp wr:List Addr} {G:Array GenState->Array GenState->Prop} {n:Nat} {P:Nat->Value->Prop} {St:Nat->Shared->Prop}
def yj(h:Heap)(b:Addr)(key v:Value):Prop:=∃o m,h.get? b=some o/\o.cls=.type "tuple"/\o.data=.seq #[key,v] m
def oG(hp:yj s.heap b key v)(h:Q [key,v] s):wpAny (model prog w) A (Builtin.Dict.pairItems (.ref b)) Q E s:=by
 obtain⟨o,m,h1,h2,h3⟩:=hp;unfold Builtin.Dict.pairItems;refine ai (nv ⟨o,h1,h2⟩ ?_);rw[if_pos (by decide)]
 refine ai ?_;unfold seqItems?;obtain⟨adM,abK,abL,Zx⟩:=o;simp only at h2 h3;subst h2 h3
 wp_walk
 exact h
def Ef(W:WalksS prog w A.in1 I fp wr G n P St)(S:Addr)(hSf:S∉fp)(hl:kvs.length=n)(hn:n<=sizeLine){s₀:Shared}
  (Qf:∀i v,P i v->∃b k key u,v=.ref b/\kvs[i]?=some (k,u)/\knd.is k key=true/\b∉S::wr/\yj s₀.heap b key u) :
  ∀(c i:Nat) (s:Shared),n-i=c->i<=n->St i s->(∀b o,b∉S::wr->s₀.heap.get? b=some o->s.heap.get? b=some o)->s.heap.DictOf knd S (merged [] (kvs.take i)) ->
   (∀s',Moved (S::wr) G s s'->s'.heap.DictOf knd S (merged [] kvs)->R (.ok (.ret .none)) s') ->
   codeAny (model prog w) A (.builtin "dict.update.loop" ⟨[.ref S,.ref I,rawInt (i:Int),.none],[]⟩) R s:=by
 have hSw:S∉wr:=λh=>hSf (W.sub _ h)
 have K7:∀b∈wr,b∈S::wr:=by grind
 intro c;induction c with
 | zero =>
  intro i s hk hi sg ho hS hR;have AN:i=n:=by lia
  subst AN;refine uX F.eZ ?_;rw[uN F.cB _];refine ai (W.done s _ _ sg λs' hm=>?_)
  refine ai (ar ?_);rw[zu (jy ‹_›)]at hS;refine ar (hR s' (hm.mono K7) ?_);obtain⟨o,es,ep,h1,r⟩:=hS;exact⟨o,es,ep,hm.heap S _ hSw h1,r⟩
 | succ c ih =>
  intro i s hk hi sg ho hS hR;have vT:i<n:=by lia
  refine uX F.eZ ?_;rw[uN F.cB _];refine ai (W.item i s _ _ vT sg λv s' hP Qg hm=>?_)
  obtain⟨b,k,key,u,rfl,hki,OP,hbn,Vj⟩:=Qf i v hP;have mP:∀b o,b∉S::wr->s₀.heap.get? b=some o->s'.heap.get? b=some o:=λb o hb e=>hm.heap b o (λz=>hb (cG _ z)) (ho b o hb e)
  refine ai (dY ?_);refine ai (wpAny_tryCatch (oG (by
   obtain⟨o,m,h1,r⟩:=Vj;exact⟨o,m,mP b o hbn h1,r⟩) ?_))
  refine dY ?_;have hsz:(merged [] (kvs.take i)).length<=sizeLine:=by
   have:=merged_length_le ([]:List (K×Value)) (kvs.take i);rw[kM]at this;simp at this
   lia
  refine wpAny_dictSet_pairs OP (by
   obtain⟨o,es,ep,h1,r⟩:=hS;exact⟨o,es,ep,hm.heap S _ hSw h1,r⟩) λh' hd Zy=>?_
  rw[<-merged_take_succ _ _ _ _ hki]at hd;have Zz:∀b o,b∉S::wr->s₀.heap.get? b=some o->h'.get? b=some o:=λb o hb e=>(Zy.2 b (λh:b=S=>hb (by grind))).trans (mP b o hb e)
  refine ar ⟨vg F.cB _,ih (i+1) _ (by lia) vT (W.frame _ s' _ _ Qg (zO ..) λb hb o e=>?_) Zz hd λT3 ZA ZC=>?_⟩
  ·exact(Zy.2 b (λh:b=S=>hSf (by grind))).trans e
  ·refine hR T3 (Moved.trans W.gtrans ((hm.mono K7).then_heap (zO ..) λb o hb e=>?_) ZA) ZC
   exact(Zy.2 b (λh:b=S=>hb (by grind))).trans e
end
namespace F
theorem vY:typeLookup (.type "list") "keys"=pure none:=by rw[zW,zy];kernel_rfl
end F
section
variable {prog:Program} {w:World} {A:Around} {E:Value->Shared->Prop} {s:Shared} {a:Addr} {o:Obj} {xs:Array Value} {k:Nat} {Q:Option Value->Shared->Prop}
theorem qP(hx:s.heap.get? a=some o)(hc:o.cls=.type "list")(AB:o.data=.seq xs k)(hd:o.dict=none)(hA:A.handled=none)
  (h:∀h' tk,(∀b ob,s.heap.get? b=some ob->h'.get? b=some ob)->Q none {s with heap:=h',toks:=tk}) :
  wpAny (model prog w) A (getAttr? (.ref a) "keys") Q E s:=by
 obtain⟨c,Nh,dat,sl⟩:=o;simp only at hc AB hd;subst hc AB hd;obtain⟨hp,g,d,tk,os⟩:=s;have hT:∀XC,(⟨hp,g,d,XC,os⟩:Shared).TypeIs (.ref a) "list":=λ_=>⟨_,hx,rfl⟩
 have f1:=sub_AttributeError;have f3:=zl.lookup;have f4:=zl.bind (.ref a);have f5:=am_list_getattr_none;unfold getAttr? getAttrBy? getAttrBy
 repeat (any_goals (first | assumption | exact hT _ | ((with_reducible show wpAny _ _ (call (Value.builtin "list.__getattribute__") _ _) _ _ _);refine gh zl (hT _) am_entry_list_getattribute (F.args_list_getattribute_2 _ _) (meets_getattribute_miss_list a xs k sl "keys" _ F.vY (by decide +kernel) (by decide +kernel)) ⟨hx,hA,λh' XC e AG=>?_⟩) | wp_step))
 obtain⟨t',u',he⟩:=AG.there;show wpAny _ _ (getattributeRaised _ _ _ _ _ _ _) _ _ _;unfold getattributeRaised
 repeat (any_goals (first | assumption | wp_step))
 exact h _ _ AG.keeps
end
section
variable {prog:Program} {w:World} {A:Around} {E:Value->Shared->Prop} {s:Shared} {K:Type} [DecidableEq K] {knd:KeyKind prog w K}
theorem yk{l:Addr}{ol:Obj}{items:Array Value}{m:Nat}{kvs:List (K×Value)}{Q:Value->Shared->Prop}(hh:A.handled=none)(hx:s.heap.get? l=some ol)(hc:ol.cls=.type "list")(AB:ol.data=.seq items m)(XD:ol.dict=none)
  (hi:∀(i:Nat) (v:Value),items[i]?=some v->∃b k key u,v=.ref b/\kvs[i]?=some (k,u)/\knd.is k key=true/\yj s.heap b key u) (hlk:kvs.length=items.size) (hb:items.size<=sizeLine)
  (h:∀(h':Heap) (tk:Nat),h'.DictOf knd s.heap.objs.size (merged [] kvs)->(∀b o,b<s.heap.objs.size->s.heap.get? b=some o->h'.get? b=some o)->Q (.ref s.heap.objs.size) {s with heap:=h',toks:=tk}) :
  wpAny (model prog w) A (call (.type "dict") [.ref l]) Q E s:=by
 refine callType_codes (Q₁:=λobj s₁=>obj=.ref s.heap.objs.size/\s₁={s with heap:=s.heap.push {cls:=.type "dict",data:=.dict #[]}}) F.kt_called_dict (F.kt_typeCall_dict_1 _) F.entry_dict_init (kt_code_dict_new _ ⟨rfl,rfl⟩) ?_
 rintro obj s₁ ⟨rfl,rfl⟩
 have qQ:(s.heap.push {cls:=.type "dict",data:=.dict #[]}).DictOf knd s.heap.objs.size []:=Heap.DictOf.new s.heap
 have AG:(s.heap.push {cls:=.type "dict",data:=.dict #[]}).get? l=some ol:=aJ _ hx
 have hlS:l<s.heap.objs.size:=aI hx;refine⟨qQ.typeIs,F.args_dict_init_2 _ _,?_⟩;unfold Builtin.«dict.__init__»;refine ai ?_;unfold Builtin.Dict.selfAndRest;refine ai (wpAny_notOrdered_dict qQ.typeIs ?_);show wpAny _ _ (pure (s.heap.objs.size,[Value.ref l])) _ _ _;refine ar ?_;show wpAny _ _ (Builtin.Dict.updateFrom "dict.__init__" s.heap.objs.size (.ref l) [] .none) _ _ _;unfold Builtin.Dict.updateFrom;refine ai (nv (T:="list") ⟨ol,AG,hc⟩ ?_);rw[if_pos (by decide)]
 refine ai (qP AG hc AB XD (by simp[hh]) λh2 tk2 kp=>?_)
 rw[if_pos (show(none:Option Value).isNone=true from rfl)]
 have hx2:h2.get? l=some ol:=kp l ol AG;have Ni:h2.DictOf knd s.heap.objs.size []:=by
  obtain⟨o,es,ep,h1,r⟩:=qQ;exact⟨o,es,ep,kp _ _ h1,r⟩
 have ht2:h2.IsList l items:=⟨ol,hx2,hc,m,AB⟩;refine ai (iE ?_);refine ai ?_;refine zJ ht2 ?_;refine ar ⟨vg F.cB _,?_⟩;have XE:s.heap.objs.size<h2.objs.size:=by
  obtain⟨o,_,_,h1,_⟩:=Ni;exact aI h1
 have ZD:l≠h2.objs.size:=bC (jx hlS XE);have hSf:s.heap.objs.size∉[h2.objs.size,l]:=by
  simp only[aG,bG,bH,not_or];exact⟨bC XE,pY hlS⟩
 have Qh:A.in1.in1.handled=none:=by simp[hh]
 have Qf:∀(i:Nat) (v:Value),items[i]?=some v->∃b k key u,v=.ref b/\kvs[i]?=some (k,u)/\knd.is k key=true/\b∉[s.heap.objs.size,h2.objs.size]/\yj s.heap b key u:=λi v hv=>by
  obtain⟨b,k,key,u,e1,e2,e3,e4⟩:=hi i v hv;refine⟨b,k,key,u,e1,e2,e3,?_,e4⟩;obtain⟨o,_,ho,_⟩:=e4;have:=aI ho;simp only[aG,bG,bH,not_or];exact⟨bC this,bC (jx this XE)⟩
 refine Ef (knd:=knd) (s₀:=s) ((Walks.list Qh h2.objs.size l ZD items).toS) s.heap.objs.size hSf hlk hb Qf (items.size-0) 0 _ (by lia) (iD _) ⟨⟨_,bL _ rfl,rfl,rfl⟩,ht2.push _⟩ (λb o _ e=>aJ _ (kp _ _ (aJ _ e))) ?_ ?_
 ·obtain⟨o,es,ep,h1,r⟩:=Ni;exact⟨o,es,ep,aJ _ h1,r⟩
 ·intro s' hm Nj;obtain⟨h',g',d',XC,TY⟩:=s';have eg:g'=s.gens:=hm.gens;have ed:d'=s.drawn:=hm.drawn;have eo:TY=s.os:=hm.os;subst eg;subst ed;subst eo;refine⟨rfl,h h' XC Nj λb o hb e=>?_⟩
  refine hm.heap b o ?_ (aJ _ (kp _ _ (aJ _ e)));simp only[aG,bG,bH,not_or];exact⟨bC hb,bC (jx hb XE)⟩
end
end PySem
namespace L2.U
open PySem PySem.Spec PyProof.Rows
section
variable {X:Cx} {a b:Expr} {ta tb:TE} {p cp bp:Pos}
def nW(K:W.Frag)(H:Hp):List V->List (bP×V)->Prop:=Paired λv kv=>∃c,v=.ref c/\iG K H c [kV kv.1,kv.2]
def iP(kvs:List (bP×V)):List (bP×V):=kvs.foldl (λacc kv=>putK acc kv.1 kv.2) []
theorem yl:∀{kvs:List (bP×V)} {vs:List (bP×Value)} {acc:List (bP×V)} {Vk:List (bP×Value)},L2.KV kvs vs->L2.KV acc Vk->L2.KV (kvs.foldl (λacc kv=>putK acc kv.1 kv.2) acc) (vs.foldl (λacc kv=>stored acc kv.1 kv.2) Vk)
 | _,_,_,_,.nil,h=>h
 | _,_,_,_,.cons (a:=x) r t,h=>by
  have h2:=h.put x.1 r.2;rw[kQ,kQ];rw[r.1]at h2 ⊢;exact yl (t) h2
def Hm(f:List (bP×V)):∀acc:List (bP×V),(f.foldl (λacc kv=>putK acc kv.1 kv.2) acc).length<=acc.length+f.length:=by
 induction f with
 | nil=>intro acc;simp
 | cons x f ih =>
  intro acc;have:=ih (putK acc x.1 x.2);have:=B8 acc x.1 x.2;rw[kQ,cq]
  lia
theorem Cu(I:Inv X ah σ H s):∀{vs:List V} {kvs:List (bP×V)},nW X.K H vs kvs->∀{us:List Value},Vals vs us->∃Ln:List (bP×Value),L2.KV kvs Ln/\Ln.length=us.length/\∀(i:Nat) (u:Value),us[i]?=some u->∃b k key w,u=.ref b/\Ln[i]?=some (k,w)/\(di X.prog X.w).is k key=true/\yj s.heap b key w
 | _,_,.nil,us,r=>by
  cases r;exact⟨[],.nil,rfl,λi u h=>by cases h⟩
 | _,_,.cons (b:=kv) q t,us,r=>by
  cases r with
  | cons r1 r2 =>
   obtain⟨Ln,g1,g2,g3⟩:=Cu I t r2;obtain⟨c,rfl,hs⟩:=q;obtain⟨ax,rr,⟨o,h1,h2,n,h3⟩,_⟩:=I.tuple hs;obtain⟨key,w,e,hk,hw⟩:=rr.two;subst e;cases r1;refine⟨(kv.1,w)::Ln,.cons ⟨rfl,hw⟩ g1,by rw[cq,cq,g2],λi u hu=>?_⟩
   cases i with
   | zero =>
    cases hu;exact⟨c,kv.1,key,w,rfl,rfl,qz hk,o,n,h1,h2,h3⟩
   | succ i=>exact g3 i u hu
end
def rDL(K:W.Frag):List V->Hp->VK->Prop:=λxs H Q=>∃a vs kvs,xs=[.ref a]/\iH K H a vs/\vs.length<=1000/\nW K H vs kvs/\∀p,H p=none->Q (.ref p) (cU H p (.dK (iP kvs)))
theorem AO{X:Cx}(hh:X.A.handled=none):kz X (.type "dict") (rDL X.K):=by
 intro ah s σ H xs us Q I rs ⟨a,vs,kvs,ex,ha,hl,hp,q⟩;subst ex;obtain⟨u,rfl,ru⟩:=jF rs;cases ru;obtain⟨ax,n,r,hx,_⟩:=I.lX ha;obtain⟨Ln,g1,g2,g3⟩:=Cu I hp r;have abQ:1000<=sizeLine:=by decide
 have hil:ax.length<=1000:=by rw[<-r.length];exact hl
 refine yk (knd:=di X.prog X.w) (items:=ax.toArray) (kvs:=Ln) hh hx rfl rfl rfl (λi v hv=>?_) (by rw[g2];simp) (by simp;lia) λh' tk dd kp=>?_
 ·rw[List.getElem?_toArray]at hv;exact g3 i v hv
 ·have Su:L2.KV (iP kvs) (merged [] Ln):=yl g1 .nil;refine⟨.ref _,_,I.laid (o:=.dK (iP kvs)) (λb u e=>kp b u (aI e) e) (aA _) ?_,rfl,q _ (I.hok.fresh (aA _))⟩
  refine⟨?_,fE.mpr (bU (bC (lW I))),_,Su,dd⟩;have:=Hm kvs [];have e:kvs.length=Ln.length:=nj g1;unfold iP;simp only[m9]at this
  lia
def Lo{X:Cx}{a:Expr}{ta:TE}{p cp:Pos}(hh:X.A.handled=none)(hg:Gl X "dict")(hm:X.mg "dict"=none)(ha:PE X a ta)(hs:starEach [a] X.env=[(false,eval a X.env)]):PE X (.Call (.Name "dict" p) [a] [] cp) (λσ H Q=>ta σ H λx H1=>rDL X.K [x] H1 Q):=by
 intro ah s σ H Q I h;refine Call_ (ld_blt I hg hm (show bootBuiltins "dict"=some (.type "dict") by decide +kernel) (hZ (Ct hs (thn (ha ah s σ H _ I h) λv s1 ⟨x,H1,I1,r1,q1⟩=>?_)) hs rfl))
 exact AO hh ah s1 σ H1 [x] [v] Q I1 (.cons r1 .nil) q1
def Ho:PV->Option (bP×PV)
 | .nd .au [k,v]=>(DX k).map λj=>(j,v)
 | _=>none
def Cv:List (bP×PV)->aj->aj
 | [],c=>c
 | (k,v)::r,c=>match c.k with
  | .eS t ks=>Cv r (iO t (k,[]) v ks c.ps)
  | _=>c
def Hq(ps:List PV):Option aj:=if ps.length<=1000 then(dD Ho ps).map λkvs=>Cv kvs ⟨.eS false [],[]⟩else none
section
variable {K:W.Frag} {F:Fz}
theorem ym:∀{ps:List PV} {kvs:List (bP×PV)} {vs:List V},dD Ho ps=some kvs->ay K F ps vs->∃ks:List (bP×V),nW K F.F vs ks/\ks.map (·.1)=kvs.map (·.1)/\ay K F (kvs.map (·.2)) (ks.map (·.2))
 | [],_,_,h,b=>by
  cases h;rw[b.cA];exact⟨[],.nil,rfl,.nil⟩
 | p::ps,kvs,vs,h,b=>by
  obtain⟨kv,r,h1,h2,rfl⟩:=fL h;obtain⟨v,w,rfl,b1,b2⟩:=b.bV;obtain⟨ks,g1,g2,g3⟩:=ym h2 b2;unfold Ho at h1;split at h1
  ·rename_i k q;obtain⟨j,e1,rfl⟩:=aQ h1;obtain⟨c,ws,rfl,hs,hb⟩:=bO.mp b1;obtain⟨x,y,rfl,bx,bq⟩:=B3 hb;rw[mj e1 bx]at hs;exact⟨(j,y)::ks,.cons ⟨c,rfl,hs⟩ g1,by rw[aP,aP,g2],.cons bq g3⟩
  ·cases h1
theorem Cw:∀{kvs:List (bP×PV)} {ks:List (bP×V)} {acc:List (bP×V)} {ps:List PV},ks.map (·.1)=kvs.map (·.1)->ay K F (kvs.map (·.2)) (ks.map (·.2))->ay K F ps (acc.map (·.2)) ->
  ∃mR vG,Cv kvs ⟨.eS false (acc.map λy=>(y.1,[])),ps⟩=⟨.eS false mR,vG⟩/\(ks.foldl (λacc kv=>putK acc kv.1 kv.2) acc).map (λy=>(y.1,[]))=mR/\ay K F vG ((ks.foldl (λacc kv=>putK acc kv.1 kv.2) acc).map (·.2))
 | [],ks,acc,ps,h1,h2,h3=>by
  have:=List.map_eq_nil_iff.mp h1;subst this;exact⟨_,_,rfl,rfl,h3⟩
 | (k,q)::kvs,[],acc,ps,h1,h2,h3=>by cases h1
 | (k,q)::kvs,(j,v)::ks,acc,ps,h1,h2,h3=>by
  simp only[aP,zS]at h1;obtain⟨rfl,h1⟩:=h1;obtain⟨v',w,e,b1,b2⟩:=h2.bV;cases e;obtain⟨mR,vG,e1,e2,e3⟩:=GN b1 h3;obtain⟨ks2,ps2,e4,e5,e6⟩:=Cw h1 b2 e3;refine⟨ks2,ps2,?_,e5,e6⟩;show Cv kvs (iO false (j,[]) q (acc.map λy=>(y.1,[])) ps)=_
  rw[e1,<-e2];exact e4
end
def Lp{K:W.Frag}(h:Hq ps=some c)(b:ay K F ps vs):∃ks:List (bP×V),nW K F.F vs ks/\ps.length<=1000/\∃mR qs,c=⟨.eS false mR,qs⟩/\(iP ks).map (λy=>(y.1,[]))=mR/\ay K F qs ((iP ks).map (·.2)):=by
 obtain⟨hl,h⟩:=bS h;obtain⟨kvs,h1,rfl⟩:=aQ h;obtain⟨ks,g1,g2,g3⟩:=ym h1 b;obtain⟨mR,vG,e1,e2,e3⟩:=Cw (acc:=[]) g2 g3 .nil;exact⟨ks,g1,hl,mR,vG,e1,e2,e3⟩
theorem nW.mono{K:W.Frag}(h:cz F G):∀{vs:List V} {ks:List (bP×V)},nW K F vs ks->nW K G vs ks
 | _,_,.nil=>.nil
 | _,_,.cons ⟨c,e,q⟩ t=>.cons ⟨c,e,cP h q⟩ (nW.mono h t)
section
variable {X:Cx} {af:Hp} {ag:Fz} {a b e:Expr} {fa fb fe:Gx PV} {p cp bp:Pos}
def Lq(fa:Gx PV):Gx PV:=bnd fa λp st=>match p with
 | .nd .lst ps=>(Hq ps).bind λc=>jH c st
 | _=>none
def Qi(hh:X.A.handled=none)(hg:Gl X "dict")(hm:X.mg "dict"=none)(ha:PE X a (tE X af ag fa))(hs:starEach [a] X.env=[(false,eval a X.env)]):PE X (.Call (.Name "dict" p) [a] [] cp) (tE X af ag (Lq fa)) :=
 (Lo hh hg hm ha hs).imp λσ H Q ⟨F,st,R,h⟩=>⟨F,st,R,h.bnd λq v F1 st1 H1 R1 g1 b1 h1=>by
  obtain⟨r,e1,e2⟩:=h1;split at e1
  ·rename_i ps;obtain⟨c,e5,e1⟩:=aO e1;obtain⟨ad,vs,rfl,hs1,hb1⟩:=dw.mp b1;obtain⟨ks,k1,hl,mR,vG,rfl,e6,e7⟩:=Lp e5 hb1;refine⟨ad,vs,ks,rfl,jG R1.sub hs1,by rw[<-hb1.length];exact hl,k1.mono R1.sub,λp hp=>?_⟩
   exact Tx.jH (show Tx X af ag (bj X.K) F1 st1 (jH ⟨.eS false mR,vG⟩) σ Q from⟨r,e1,e2⟩) R1 hp ⟨iP ks,aB,e6,rfl⟩ e7
  ·cases e1⟩
end
def Qj:List PV->Option (List Int)
 | [.int n]=>if 0<=n/\n<=1000 then some (rangeInts 0 1 n.toNat)else none
 | [.int a,.int b]=>if 0<=a/\a<=b/\b<=1000 then some (rangeInts a 1 (b-a).toNat)else none
 | _=>none
def lg(m:Nat)(ps:List PV):Gx PV:=λst=>match m with
 | 0=>some (.ok (.lst ps),st)
 | _=>jH ⟨.lst,ps⟩ st
def ZE(m:Nat)(ts:Gx (List PV)):Gx PV:=bnd ts λps=>bnd (jd (Qj ps)) λl=>lg m (l.map .int)
def boot_range:bootBuiltins "range"=some (.type "range"):=by kernel_rfl
section
variable {X:Cx} {af:Hp} {ag:Fz} {e:Expr} {es:List Expr} {ts:Gx (List PV)} {pos p yi zp:Pos} {m:Nat}
def Tx.lg{st:b8}(h:Tx X af ag (bj X.K) F st (lg m ps) σ Q)(R:Rep X.K af ag F st σ H)(hq:H q=none)(hb:ay X.K F ps vs):Q (.ref q) (cU H q (.lst vs)):=by
 cases m with
 | zero =>
  obtain⟨r,e1,e2⟩:=h;cases e1;obtain⟨R2,s2⟩:=R.laid (.lst vs) hq;exact e2 _ _ _ R2 s2 (dw.mpr ⟨q,vs,rfl,iH.of aB,hb.mono s2⟩)
 | succ m=>exact Tx.jH (h) R hq aB hb
def AQ(h:ItemsOf (fun(i:Nat) (v:Value)=>∃t:Tok,v=Value.int (a+i*c) t) acc n):Vals ((rangeInts a c n).map V.int) acc.toList:=by
 have:∀l k,(∀j v,l[j]?=some v->∃t:Tok,v=Value.int (a+(k+j:Nat)*c) t)->Vals (((List.range' k l.length).map fun(i:Nat)=>a+i*c).map V.int) l:=by
  intro l;induction l with
  | nil=>intro k _;exact .nil
  | cons x l ih =>
   intro k hx;obtain⟨t,ht⟩:=hx 0 x rfl;rw[cq,List.range'_succ,aP,aP];refine .cons ⟨t,by rw[ht];rfl⟩ (ih (k+1) λj v hv=>?_)
   have:=hx (j+1) v (by simpa using hv)
   rw[show k+(j+1)=k+1+j by lia]at this
   exact this
 have h2:=this acc.toList 0 λj v hv=>by
  rw[ny];exact h.2 j v (by rw[<-uJ];exact hv)
 rw[mW,h.1,<-List.range_eq_range']at h2;exact h2
def Vl(hh:X.A.handled=none)(Vm:Gl X "list")(Vn:X.mg "list"=none)(hg:Gl X "range")(hm:X.mg "range"=none)(ha:PA X (e::es) (tA X af ag ts))(hs:starEach (e::es) X.env=(false,eval e X.env)::starEach es X.env)(DF:(backTo yi (starEach es X.env)).any (·.1)=false) :
  PE X (.Call (.Name "list" p) [.Call (.Name "range" zp) (e::es) [] yi] [] pos) (tE X af ag (ZE m ts)):=by
 rintro ah s σ H Q I ⟨F,st,Rp,h⟩
 refine jq (ld_blt I Vm Vn (iN .list) ?_ (by decide) (by decide))
 refine hZ (Ct rfl ?_) rfl rfl;have hA:=ha yi ah s σ H (λvs H'=>∃F' st' ps,Rep X.K af ag F' st' σ H'/\ay X.K F' ps vs/\Tx X af ag (bj X.K) F' st' (bnd (jd (Qj ps)) λl=>lg m (l.map .int)) σ Q) I ⟨F,st,Rp,h.bnd λps vs F1 st1 H1 R1 g1 b1 h1=>⟨F1,st1,ps,R1,b1,h1⟩⟩
 refine Call_ (ld_blt I hg hm boot_range (hZ (thn hA λus s1 z9=>?_) hs DF))
 obtain⟨vs,H1,I1,r1,F1,st1,ps,R1,b1,h1⟩:=z9;obtain⟨ns,f2,h1⟩:=At.jd (At.bnd h1);have iJ:∀r h1 ZF (a b c:Int) (t u v:Tok) (n:Nat),(∀b o,s1.heap.get? b=some o->h1.get? b=some o)->IsRange h1 r a b c t u v->Builtin.Range.small a b c=true->Builtin.Range.rangeSize a b c=n->n<=3000->ns=rangeInts a c n ->
   wpAny (model X.prog X.w) X.A (call (.type "list") [.ref r]) (EP X ah σ Q) X.xe {s1 with heap:=h1,toks:=ZF}:=λr h2 ZF a b c t u v n hk hr hsm hn hle Gn=>by
  refine call_list_range hh hr hsm hn (by lia) λh' tk acc c' Xw hS ZG=>?_
  have I2:=I1.kept (t':=ZF) hk;have hz:=I2.hok.fresh (aA _);have hv:=AQ ZG;rw[<-Gn]at hv;refine⟨.ref h2.objs.size,cU H1 h2.objs.size (.lst (ns.map V.int)),I2.laid Xw (aA _) ⟨?_,acc.toList,c',hv,hS⟩,rfl,Tx.lg h1 R1 hz (t9 ns)⟩;rw[aT,Gn,rangeInts_length];exact aR hle (by decide)
 clear h1;unfold Qj at f2;split at f2
 ·rename_i n;obtain⟨⟨h0,h1⟩,e1⟩:=aD f2;obtain⟨v,rfl,bv⟩:=dO b1;rw[aE.mp bv]at r1;obtain⟨u,rfl,ru⟩:=jF r1;obtain⟨tk0,rfl⟩:=ru;refine call_range_1 ?_;refine iJ _ _ _ 0 n 1 _ _ _ n.toNat (λb o e=>aJ _ e) (IsRange.new ..) ?_ ?_ (by lia) e1.symm
  ·exact small_one (by decide) (by decide) (by lia) (by lia)
  ·unfold Builtin.Range.rangeSize;rw[if_pos (by decide)]
   split<;>lia
 ·rename_i a b;obtain⟨⟨h0,h1,h2⟩,e1⟩:=aD f2;obtain⟨v1,v2,rfl,bv1,bv2⟩:=B3 b1;rw[aE.mp bv1,aE.mp bv2]at r1;obtain⟨u1,u2,rfl,P1,Vo⟩:=BM r1;obtain⟨k1,rfl⟩:=P1;obtain⟨k2,rfl⟩:=Vo;refine call_range_2 ?_;refine iJ _ _ _ a b 1 _ _ _ (b-a).toNat (λb o e=>aJ _ e) (IsRange.new ..) (small_one (by lia) (by lia) (by lia) (by lia)) (rangeSize_nat a b) (by lia) e1.symm
 ·cases f2
end
end L2.U
namespace PySem.W
open PySem PyProof.Rows
end PySem.W
namespace L2.U
open PySem PySem.Spec PyProof.Rows
section
variable {X:Cx} {af:Hp} {ag:Fz} {e:Expr} {fe:Gx PV} {pos p:Pos} {m:Nat}
def Qk(h:List aj)(p q:PV):Option (List PV):=(ox h p).bind λxs=>(ox h q).bind λys=>if xs.length+ys.length<=ic then some (xs++ys)else none
def Ql(m:Nat)(fa fb:Gx PV):Gx PV:=bnd fa λp=>bnd fb λq=>bnd (hp λh=>Qk h p q) λl=>lg m l
def ZH(X:Cx)(af:Hp)(ag:Fz)(m:Nat):R2:=λx y H Q=>∃F st σ pa pb l,Qk st.h pa pb=some l/\Rep X.K af ag F st σ H/\bj X.K F pa x/\bj X.K F pb y/\Tx X af ag (bj X.K) F st (lg m l) σ Q
def Lr:OpR X (binaryOp .Add) (ZH X af ag m):=by
 rintro ah s σ H x y v u Q I rx ry ⟨F,st,τ,pa,pb,l,e,R,ba,bb,k⟩
 obtain⟨xs,e1,e⟩:=aO e;obtain⟨ys,e2,e⟩:=aO e;obtain⟨hz,rfl⟩:=aD e;obtain⟨a,vs,rfl,ha,gA⟩:=R.at (eP e1) ba;obtain⟨b,ws,rfl,hb,Jr⟩:=R.at (eP e2) bb;cases rx;cases ry;obtain⟨ax,n,r,e1,z1⟩:=I.lX ha;obtain⟨eK,n2,r2,e2,z2⟩:=I.lX hb;have hl:=r.length;have Xr:=r2.length;have hz':vs.length+ws.length<=sizeLine:=by rw[<-gA.length,<-Jr.length];exact d7 hz
 refine PySem.P.add_list e1 e2 ?_ (by grind)
 have ea:ax.toArray++eK.toArray=(ax++eK).toArray:=by simp
 rw[ea];exact⟨.ref _,_,I.O6 (r.append r2) (by grind),rfl,Tx.lg k R I.fresh (gA.append Jr)⟩
def Qm{a b:Expr}{fa fb:Gx PV}(ha:PE X a (tE X af ag fa))(hb:PE X b (tE X af ag fb)):PE X (.BinOp a .Add b pos) (tE X af ag (Ql m fa fb)):=(MS Lr ha hb).imp λσ H Q ⟨F,st,R,h⟩ =>
 ⟨F,st,R,h.bnd λp v F1 st1 H1 R1 g1 b1 h1=>⟨F1,st1,R1,h1.bnd λq w F2 dE H2 R2 g2 b2 h2=>by
  obtain⟨l,e,z⟩:=At.hp (At.bnd h2);exact⟨F2,dE,σ,p,q,l,e,R2,b1.mono g2,b2,z⟩⟩⟩
end
theorem ng{a b:Nat}(h:b<a):@Ne Addr a b:=pY h
structure Zp (h:Heap) (z TI TO i1 i2 l1 l2:Nat) (f0:Value) (k:Nat) (xs ys:Array Value):Prop where
 hz:IsZip h z TI TO f0
 hTI:IsPair h TI (.ref i1) (.ref i2)
 hTO:∃a b,IsPair h TO a b
 s1:SI h i1 l1 k xs
 s2:SI h i2 l2 k ys
 ord:i1<i2/\i2<TI/\TI<TO/\TO<z
 o1:l1<i1
 o2:l2<i1
section
variable {prog:Program} {w:World} {A:Around} {E:Value->Shared->Prop} {s:Shared} {z TI TO i1 i2 l1 l2:Nat} {k:Nat} {xs ys:Array Value}
theorem Cy{x y:Value}{Q:Value->Shared->Prop}(Z:Zp s.heap z TI TO i1 i2 l1 l2 .none k xs ys)(hx:xs[k]?=some x)(hy:ys[k]?=some y)
  (hQ:∀h',Zp h' z TI TO i1 i2 l1 l2 (rawInt s.heap.objs.size) (k+1) xs ys->IsPair h' s.heap.objs.size x y->h'.objs.size=s.heap.objs.size+1->(∀c o,c≠z->c≠TO->c≠i1->c≠i2->s.heap.get? c=some o->h'.get? c=some o)->Q (.ref s.heap.objs.size) {s with heap:=h'}) :
  wpAny (model prog w) A (Builtin.«zip.__next__» ⟨[.ref z],[]⟩) (λiJ s'=>∃v,iJ=.done (.ret v)/\Q v s') E s:=by
 obtain⟨hz,hTI,⟨a,b,hTO⟩,s1,s2,⟨o1,o2,o3,o4⟩,q1,q2⟩:=Z;show wpAny _ _ (field (.ref z) 2 >>= _) _ _ _;refine ai (cJ hz rfl (x:=.bool false) rfl ?_);show wpAny _ _ (field (.ref z) 3 >>= _) _ _ _;refine ai (cJ hz rfl (x:=.ref TI) rfl (ai (fI hTI rfl ?_)));show wpAny _ _ (Builtin.SmallTypes.ownedTupleIsFree (.ref z) >>= _) _ _ _;refine ai ?_;unfold Builtin.SmallTypes.ownedTupleIsFree;refine ai (cJ hz rfl (x:=.none) rfl (ar ?_));simp only[eI];refine ai (iE (ai (cJ hz rfl (x:=.ref TO) rfl (ai (kF hz (by simp) λgO hz₁ e₁=>?_)))))
 replace hz₁:IsZip gO z TI TO .ellipsis:=hz₁;refine ai ?_;simp only[List.zipIdx_cons,List.zipIdx_nil,m7,pU];refine ai (ai (vc ?_));show wpAny _ _ (Builtin.SmallTypes.nextOf (.ref i1) >>= _) _ _ _;have mr:SI gO i1 l1 k xs:=s1.at (λo e=>e₁.extBut _ _ (by first | exact nl (by lia) | exact ng (by lia)) e) (λo e=>e₁.extBut _ _ (by first | exact nl (by lia) | exact ng (by lia)) e)
 refine ai (SI.next mr hx λqR yn e₂=>ar ?_)
 have qS:IsPair qR TO a b:=e₂.extBut _ _ (by first | exact nl (by lia) | exact ng (by lia)) (e₁.extBut _ _ (by first | exact nl (by lia) | exact ng (by lia)) hTO)
 refine ai (fI qS rfl (ai (zA qS λlj hTO₃ jh=>?_)))
 replace hTO₃:IsPair lj TO x b:=hTO₃;refine ai (p6 (ar (ai (ai (vc ?_)))));show wpAny _ _ (Builtin.SmallTypes.nextOf (.ref i2) >>= _) _ _ _;have yo:SI lj i2 l2 k ys:=s2.at (λo e=>jh.extBut _ _ (by first | exact nl (by lia) | exact ng (by lia)) (e₂.extBut _ _ (by first | exact nl (by lia) | exact ng (by lia)) (e₁.extBut _ _ (by first | exact nl (by lia) | exact ng (by lia)) e))) (λo e=>jh.extBut _ _ (by first | exact nl (by lia) | exact ng (by lia)) (e₂.extBut _ _ (by first | exact nl (by lia) | exact ng (by lia)) (e₁.extBut _ _ (by first | exact nl (by lia) | exact ng (by lia)) e)))
 refine ai (SI.next yo hy λQn Vp e₄=>ar ?_)
 have Hr:IsPair Qn TO x b:=e₄.extBut _ _ (by first | exact nl (by lia) | exact ng (by lia)) hTO₃
 refine ai (fI Hr rfl (ai (zA Hr λjN hTO₅ AR=>?_)))
 replace hTO₅:IsPair jN TO x y:=hTO₅;refine ai (p6 (ar (ar ?_)));refine ai (fI hTO₅ rfl (ai (wpAny_newTuple ?_)));have hsz:jN.objs.size=s.heap.objs.size:=by rw[AR.1,e₄.1,jh.1,e₂.1,e₁.1]
 have Nk:IsZip jN z TI TO .ellipsis:=AR.extBut _ _ (by first | exact nl (by lia) | exact ng (by lia)) (e₄.extBut _ _ (by first | exact nl (by lia) | exact ng (by lia)) (jh.extBut _ _ (by first | exact nl (by lia) | exact ng (by lia)) (e₂.extBut _ _ (by first | exact nl (by lia) | exact ng (by lia)) hz₁)))
 have kp:∀c o,c≠z->c≠TO->c≠i1->c≠i2->s.heap.get? c=some o->jN.get? c=some o:=λc o c1 c2 c3 c4 e=>AR.extBut _ _ c2 (e₄.extBut _ _ c4 (jh.extBut _ _ c2 (e₂.extBut _ _ c3 (e₁.extBut _ _ c1 e))))
 have Vq:SI jN i1 l1 (k+1) xs:=yn.at (λo e=>AR.extBut _ _ (by first | exact nl (by lia) | exact ng (by lia)) (e₄.extBut _ _ (by first | exact nl (by lia) | exact ng (by lia)) (jh.extBut _ _ (by first | exact nl (by lia) | exact ng (by lia)) e))) (λo e=>AR.extBut _ _ (by first | exact nl (by lia) | exact ng (by lia)) (e₄.extBut _ _ (by first | exact nl (by lia) | exact ng (by lia)) (jh.extBut _ _ (by first | exact nl (by lia) | exact ng (by lia)) e)))
 have Vr:SI jN i2 l2 (k+1) ys:=Vp.at (λo e=>AR.extBut _ _ (by first | exact nl (by lia) | exact ng (by lia)) e) (λo e=>AR.extBut _ _ (by first | exact nl (by lia) | exact ng (by lia)) e)
 have zlt:z<jN.objs.size:=aI Nk;show wpAny _ _ (Builtin.SmallTypes.ownedTupleHandOut (.ref z) (.ref jN.objs.size) >>= _) _ _ _;refine ai ?_;unfold Builtin.SmallTypes.ownedTupleHandOut;have Vt:IsZip (jN.push {cls:=.type "tuple",data:=.seq #[x,y]}) z TI TO .ellipsis:=aJ _ Nk
 refine ai (kF Vt (by simp) λZI Ht e₇=>?_)
 replace Ht:IsZip ZI z TI TO (rawInt jN.objs.size):=Ht;refine kF Ht (by simp) λHu Cz Qo=>?_
 replace Cz:IsZip Hu z TI TO (rawInt jN.objs.size):=Cz;have up:∀c o,c≠z->jN.get? c=some o->Hu.get? c=some o:=λc o c1 e=>Qo.extBut _ _ c1 (e₇.extBut _ _ c1 (aJ _ e))
 have hT₈:IsPair Hu jN.objs.size x y:=Qo.extBut _ _ (by first | exact nl (by lia) | exact ng (by lia)) (e₇.extBut _ _ (by first | exact nl (by lia) | exact ng (by lia)) (bL _ rfl))
 have hs8:Hu.objs.size=jN.objs.size+1:=by rw[Qo.1,e₇.1,eG]
 rw[hsz]at Cz hT₈ hs8;refine ar ⟨_,rfl,?_⟩;show Q (.ref jN.objs.size) _;rw[hsz];refine hQ Hu ⟨Cz,up _ _ (by first | exact nl (by lia) | exact ng (by lia)) (kp _ _ (by first | exact nl (by lia) | exact ng (by lia)) (by first | exact nl (by lia) | exact ng (by lia)) (by first | exact nl (by lia) | exact ng (by lia)) (by first | exact nl (by lia) | exact ng (by lia)) hTI),⟨x,y,up _ _ (by first | exact nl (by lia) | exact ng (by lia)) hTO₅⟩,Vq.at (λo e=>up _ o (by first | exact nl (by lia) | exact ng (by lia)) e) (λo e=>up _ o (by first | exact nl (by lia) | exact ng (by lia)) e),Vr.at (λo e=>up _ o (by first | exact nl (by lia) | exact ng (by lia)) e) (λo e=>up _ o (by first | exact nl (by lia) | exact ng (by lia)) e),⟨o1,o2,o3,o4⟩,q1,q2⟩ hT₈ hs8 λc o c1 c2 c3 c4 e=>up c o c1 (kp c o c1 c2 c3 c4 e)
theorem Hv{Q:Fin->Shared->Prop}(hh:A.handled=none)(Z:Zp s.heap z TI TO i1 i2 l1 l2 .none k xs ys)(yp:xs[k]?=none\/ys[k]?=none)
  (hE:∀h' e,(∀c o,c≠z->c≠TO->c≠i1->c≠i2->s.heap.get? c=some o->h'.get? c=some o)->(∃o,h'.get? e=some o/\o.cls=.type "StopIteration")->E (.ref e) {s with heap:=h'}):wpAny (model prog w) A (Builtin.«zip.__next__» ⟨[.ref z],[]⟩) Q E s:=by
 obtain⟨hz,hTI,⟨a,b,hTO⟩,s1,s2,⟨o1,o2,o3,o4⟩,q1,q2⟩:=Z;show wpAny _ _ (field (.ref z) 2 >>= _) _ _ _;refine ai (cJ hz rfl (x:=.bool false) rfl ?_);show wpAny _ _ (field (.ref z) 3 >>= _) _ _ _;refine ai (cJ hz rfl (x:=.ref TI) rfl (ai (fI hTI rfl ?_)));show wpAny _ _ (Builtin.SmallTypes.ownedTupleIsFree (.ref z) >>= _) _ _ _;refine ai ?_;unfold Builtin.SmallTypes.ownedTupleIsFree;refine ai (cJ hz rfl (x:=.none) rfl (ar ?_));simp only[eI];refine ai (iE (ai (cJ hz rfl (x:=.ref TO) rfl (ai (kF hz (by simp) λgO hz₁ e₁=>?_)))))
 replace hz₁:IsZip gO z TI TO .ellipsis:=hz₁;refine ai ?_;simp only[List.zipIdx_cons,List.zipIdx_nil,m7,pU];refine ai (ai (vc ?_));show wpAny _ _ (Builtin.SmallTypes.nextOf (.ref i1) >>= _) _ _ _;have mr:SI gO i1 l1 k xs:=s1.at (λo e=>e₁.extBut _ _ (by first | exact nl (by lia) | exact ng (by lia)) e) (λo e=>e₁.extBut _ _ (by first | exact nl (by lia) | exact ng (by lia)) e)
 cases hx:xs[k]? with
 | none =>
  refine ai (SI.stop hh mr hx λqR e hs₂ he=>?_)
  obtain⟨oe,Qp,Vu⟩:=he;have Nl:IsZip qR z TI TO .ellipsis:=hs₂ _ _ (by first | exact nl (by lia) | exact ng (by lia)) hz₁
  have ZJ:e≠z:=λx=>by subst x;rw[Nl]at Qp;cases Qp;simp at Vu
  exact kF Nl (by simp) λlj _ hs₃=>hE lj e (λc o c1 _ c3 _ x=>hs₃.extBut _ _ c1 (hs₂ _ _ c3 (e₁.extBut _ _ c1 x))) ⟨oe,hs₃.extBut _ _ ZJ Qp,Vu⟩
 | some x =>
  have hy:ys[k]?=none:=by
   rcases yp with h | h
   ·rw[hx]at h;cases h
   ·exact h
  refine ai (SI.next mr hx λqR yn e₂=>ar ?_)
  have qS:IsPair qR TO a b:=e₂.extBut _ _ (by first | exact nl (by lia) | exact ng (by lia)) (e₁.extBut _ _ (by first | exact nl (by lia) | exact ng (by lia)) hTO)
  refine ai (fI qS rfl (ai (zA qS λlj hTO₃ jh=>?_)))
  refine ai (p6 (ar (ai (ai (vc ?_)))));show wpAny _ _ (Builtin.SmallTypes.nextOf (.ref i2) >>= _) _ _ _;have yo:SI lj i2 l2 k ys:=s2.at (λo e=>jh.extBut _ _ (by first | exact nl (by lia) | exact ng (by lia)) (e₂.extBut _ _ (by first | exact nl (by lia) | exact ng (by lia)) (e₁.extBut _ _ (by first | exact nl (by lia) | exact ng (by lia)) e))) (λo e=>jh.extBut _ _ (by first | exact nl (by lia) | exact ng (by lia)) (e₂.extBut _ _ (by first | exact nl (by lia) | exact ng (by lia)) (e₁.extBut _ _ (by first | exact nl (by lia) | exact ng (by lia)) e)))
  refine ai (SI.stop hh yo hy λQn e Nn he=>?_)
  obtain⟨oe,Qp,Vu⟩:=he;have Np:IsZip Qn z TI TO .ellipsis:=Nn _ _ (by first | exact nl (by lia) | exact ng (by lia)) (jh.extBut _ _ (by first | exact nl (by lia) | exact ng (by lia)) (e₂.extBut _ _ (by first | exact nl (by lia) | exact ng (by lia)) hz₁))
  have ZJ:e≠z:=λx=>by subst x;rw[Np]at Qp;cases Qp;simp at Vu
  exact kF Np (by simp) λjN _ hs₅=>hE jN e (λc o c1 c2 c3 c4 x=>hs₅.extBut _ _ c1 (Nn _ _ c4 (jh.extBut _ _ c2 (e₂.extBut _ _ c3 (e₁.extBut _ _ c1 x))))) ⟨oe,hs₅.extBut _ _ ZJ Qp,Vu⟩
theorem yq(l1 l2:Addr)(xs ys:Array Value)(c1 c2:String) :
  Meets (Builtin.«zip.__new__» ⟨[.type "zip",.ref l1,.ref l2],[]⟩) (λ_ R s=>iq s.heap l1 xs c1/\iq s.heap l2 ys c2 /\
   ∀h1 h2 h3 h4:Heap,h1=s.heap.push {cls:=.type c1,data:=.fields #[.ref l1,.int 0 0]}->h2=h1.push {cls:=.type c2,data:=.fields #[.ref l2,.int 0 0]}->h3=h2.push {cls:=.type "tuple",data:=.seq #[.ref s.heap.objs.size,.ref h1.objs.size]}->h4=h3.push {cls:=.type "tuple",data:=.seq #[.none,.none]} ->
    R (.ok (.ret (.ref h4.objs.size))) {s with heap:=h4.push {cls:=.type "zip",data:=.fields #[.none,.bool false,.bool false,.ref h2.objs.size,.ref h3.objs.size]}}) :=
 .of_wp λprog w A R s h=>by
  obtain⟨hp,g,d,tk,os⟩:=s;obtain⟨hl1,Xr,h⟩:=h;have K7:=sub_zip;have hL1:iq (Shared.heap ⟨hp,g,d,tk,os⟩) l1 xs c1:=hl1;have hL2:iq (Shared.heap ⟨hp.push {cls:=.type c1,data:=.fields #[.ref l1,.int 0 0]},g,d,tk,os⟩) l2 ys c2:=by
   rcases Xr with⟨e,q⟩ | ⟨e,q⟩
   ·exact .inl ⟨e,Heap.IsList.push q _⟩
   ·exact .inr ⟨e,Heap.IsTuple.push q _⟩
  wp_walk using j6 hL1,j6 hL2
  exact⟨_,rfl,h _ _ _ _ rfl rfl rfl rfl⟩
end
def ZK(h:Heap)(z TI TO t:Nat)(f:Bool):Prop:=h.get? z=some {cls:=.type "zip",data:=.fields #[rawInt t,.bool f,.bool false,.ref TI,.ref TO]}
structure Zq (h:Heap) (z TI TO i1 i2 l1 l2 t:Nat) (f:Bool) (k:Nat) (xs ys:Array Value):Prop where
 hz:ZK h z TI TO t f
 hTI:IsPair h TI (.ref i1) (.ref i2)
 s1:SI h i1 l1 k xs
 s2:SI h i2 l2 k ys
 al:∃o,h.get? t=some o
 ord:i1<i2/\i2<TI/\TI<TO/\TO<z/\z<t
 o1:l1<i1
 o2:l2<i1
section
variable {prog:Program} {w:World} {A:Around} {E:Value->Shared->Prop} {s:Shared} {z TI TO i1 i2 l1 l2 t:Nat} {f:Bool} {k:Nat} {xs ys:Array Value}
theorem Zq.at{h h':Heap}(Z:Zq h z TI TO i1 i2 l1 l2 t f k xs ys)(kp:∀b o,b<=z->h.get? b=some o->h'.get? b=some o)(ka:∀o,h.get? t=some o->∃o',h'.get? t=some o'):Zq h' z TI TO i1 i2 l1 l2 t f k xs ys:=by
 obtain⟨hz,hTI,s1,s2,⟨oa,ha⟩,⟨o1,o2,o3,o4,o5⟩,q1,q2⟩:=Z;exact⟨kp _ _ (aA _) hz,kp _ _ (by lia) hTI,s1.at (λo e=>kp _ o (by lia) e) (λo e=>kp _ o (by lia) e),s2.at (λo e=>kp _ o (by lia) e) (λo e=>kp _ o (by lia) e),ka _ ha,⟨o1,o2,o3,o4,o5⟩,q1,q2⟩
theorem CA{oa:Obj}{Q:Bool->Shared->Prop}(hz:ZK s.heap z TI TO t f)(ha:s.heap.get? t=some oa)(hQ:∀gO,ZK gO z TI TO t true->Heap.SameBut z s.heap gO->Q false {s with heap:=gO}):wpAny (model prog w) A (Builtin.SmallTypes.ownedTupleIsFree (.ref z)) Q E s:=by
 unfold Builtin.SmallTypes.ownedTupleIsFree;refine ai (cJ hz rfl (x:=rawInt t) rfl ?_);show wpAny _ _ (loadIfAlive ((t:Int).toNat) >>= _) _ _ _;rw[kH];refine ai (W.kdx_alive ha ?_);simp only[Option.isNone_some,eF,cK];refine ai (cJ hz rfl (x:=.bool f) rfl ?_);cases f with
 | true =>
  rw[if_neg (show ¬((Value.bool true != Value.bool true)=true)from cw)]
  exact ar (hQ _ hz (Heap.SameBut.refl _ _))
 | false =>
  rw[if_pos (show(Value.bool false != Value.bool true)=true from rfl)]
  exact ai (kF hz (by simp) λgO hz₁ e₁=>ar (hQ gO hz₁ e₁))
theorem Ls{x y:Value}{Q:Value->Shared->Prop}(Z:Zq s.heap z TI TO i1 i2 l1 l2 t f k xs ys)(hx:xs[k]?=some x)(hy:ys[k]?=some y)
  (hQ:∀h',Zq h' z TI TO i1 i2 l1 l2 t true (k+1) xs ys->IsPair h' s.heap.objs.size x y->h'.objs.size=s.heap.objs.size+1->(∀c o,c≠z->c≠i1->c≠i2->s.heap.get? c=some o->h'.get? c=some o)->Q (.ref s.heap.objs.size) {s with heap:=h'}) :
  wpAny (model prog w) A (Builtin.«zip.__next__» ⟨[.ref z],[]⟩) (λiJ s'=>∃v,iJ=.done (.ret v)/\Q v s') E s:=by
 obtain⟨hz,hTI,s1,s2,⟨oa,ha⟩,⟨o1,o2,o3,o4,o5⟩,q1,q2⟩:=Z;show wpAny _ _ (field (.ref z) 2 >>= _) _ _ _;refine ai (cJ hz rfl (x:=.bool false) rfl ?_);show wpAny _ _ (field (.ref z) 3 >>= _) _ _ _;refine ai (cJ hz rfl (x:=.ref TI) rfl (ai (fI hTI rfl ?_)));show wpAny _ _ (Builtin.SmallTypes.ownedTupleIsFree (.ref z) >>= _) _ _ _;refine ai (CA hz ha λgO hz₁ e₁=>?_)
 simp only[eF,cK];refine ai ?_;simp only[List.forIn_toArray,m7,pU];refine ai (ai (dY ?_));show wpAny _ _ (Builtin.SmallTypes.nextOf (.ref i1) >>= _) _ _ _;have mr:SI gO i1 l1 k xs:=s1.at (λo e=>e₁.extBut _ _ (by first | exact nl (by lia) | exact ng (by lia)) e) (λo e=>e₁.extBut _ _ (by first | exact nl (by lia) | exact ng (by lia)) e)
 refine ai (SI.next mr hx λqR yn e₂=>ar ?_)
 refine ar (ai (ai (dY ?_)));show wpAny _ _ (Builtin.SmallTypes.nextOf (.ref i2) >>= _) _ _ _;have Hw:SI qR i2 l2 k ys:=s2.at (λo e=>e₂.extBut _ _ (by first | exact nl (by lia) | exact ng (by lia)) (e₁.extBut _ _ (by first | exact nl (by lia) | exact ng (by lia)) e)) (λo e=>e₂.extBut _ _ (by first | exact nl (by lia) | exact ng (by lia)) (e₁.extBut _ _ (by first | exact nl (by lia) | exact ng (by lia)) e))
 refine ai (SI.next Hw hy λlj yo jh=>ar ?_)
 refine ar (ar ?_);have hsz:lj.objs.size=s.heap.objs.size:=by rw[jh.1,e₂.1,e₁.1]
 have kp:∀c o,c≠z->c≠i1->c≠i2->s.heap.get? c=some o->lj.get? c=some o:=λc o c1 c2 c3 e=>jh.extBut _ _ c3 (e₂.extBut _ _ c2 (e₁.extBut _ _ c1 e))
 have up:∀c o,c≠i1->c≠i2->gO.get? c=some o->lj.get? c=some o:=λc o c2 c3 e=>jh.extBut _ _ c3 (e₂.extBut _ _ c2 e)
 refine ai (wpAny_newTuple (hsz:=by show 2<=sizeLine;decide) ?_)
 show wpAny _ _ (ret (Value.ref lj.objs.size)) _ _ {s with heap:=lj.push {cls:=.type "tuple",data:=.seq #[x,y]}}
 rw[hsz];refine ar ⟨_,rfl,?_⟩;have Z3:Zq lj z TI TO i1 i2 l1 l2 t true (k+1) xs ys:=⟨up _ _ (by first | exact nl (by lia) | exact ng (by lia)) (by first | exact nl (by lia) | exact ng (by lia)) hz₁,kp _ _ (by first | exact nl (by lia) | exact ng (by lia)) (by first | exact nl (by lia) | exact ng (by lia)) (by first | exact nl (by lia) | exact ng (by lia)) hTI,yn.at (λo e=>jh.extBut _ _ (by first | exact nl (by lia) | exact ng (by lia)) e) (λo e=>jh.extBut _ _ (by first | exact nl (by lia) | exact ng (by lia)) e),yo,⟨oa,kp _ _ (by first | exact nl (by lia) | exact ng (by lia)) (by first | exact nl (by lia) | exact ng (by lia)) (by first | exact nl (by lia) | exact ng (by lia)) ha⟩,⟨o1,o2,o3,o4,o5⟩,q1,q2⟩
 refine hQ _ (Z3.at (λb o _ e=>aJ _ e) λo e=>⟨o,aJ _ e⟩) ?_ (by rw[eG,hsz]) λc o c1 c2 c3 e=>aJ _ (kp c o c1 c2 c3 e)
 rw[<-hsz];exact bL _ rfl
theorem Qq{Q:Fin->Shared->Prop}(hh:A.handled=none)(Z:Zq s.heap z TI TO i1 i2 l1 l2 t f k xs ys)(yp:xs[k]?=none\/ys[k]?=none)
  (hE:∀h' e,(∀c o,c≠z->c≠i1->c≠i2->s.heap.get? c=some o->h'.get? c=some o)->(∃o,h'.get? e=some o/\o.cls=.type "StopIteration")->E (.ref e) {s with heap:=h'}):wpAny (model prog w) A (Builtin.«zip.__next__» ⟨[.ref z],[]⟩) Q E s:=by
 obtain⟨hz,hTI,s1,s2,⟨oa,ha⟩,⟨o1,o2,o3,o4,o5⟩,q1,q2⟩:=Z;show wpAny _ _ (field (.ref z) 2 >>= _) _ _ _;refine ai (cJ hz rfl (x:=.bool false) rfl ?_);show wpAny _ _ (field (.ref z) 3 >>= _) _ _ _;refine ai (cJ hz rfl (x:=.ref TI) rfl (ai (fI hTI rfl ?_)));show wpAny _ _ (Builtin.SmallTypes.ownedTupleIsFree (.ref z) >>= _) _ _ _;refine ai (CA hz ha λgO hz₁ e₁=>?_)
 simp only[eF,cK];refine ai ?_;simp only[List.forIn_toArray,m7,pU];refine ai (ai (dY ?_));show wpAny _ _ (Builtin.SmallTypes.nextOf (.ref i1) >>= _) _ _ _;have mr:SI gO i1 l1 k xs:=s1.at (λo e=>e₁.extBut _ _ (by first | exact nl (by lia) | exact ng (by lia)) e) (λo e=>e₁.extBut _ _ (by first | exact nl (by lia) | exact ng (by lia)) e)
 cases hx:xs[k]? with
 | none =>
  refine ai (SI.stop hh mr hx λqR e hs₂ he=>?_)
  exact hE qR e (λc o c1 c3 _ x=>hs₂ _ _ c3 (e₁.extBut _ _ c1 x)) he
 | some x =>
  have hy:ys[k]?=none:=by
   rcases yp with h | h
   ·rw[hx]at h;cases h
   ·exact h
  refine ai (SI.next mr hx λqR yn e₂=>ar ?_)
  refine ar (ai (ai (dY ?_)));show wpAny _ _ (Builtin.SmallTypes.nextOf (.ref i2) >>= _) _ _ _;have Hw:SI qR i2 l2 k ys:=s2.at (λo e=>e₂.extBut _ _ (by first | exact nl (by lia) | exact ng (by lia)) (e₁.extBut _ _ (by first | exact nl (by lia) | exact ng (by lia)) e)) (λo e=>e₂.extBut _ _ (by first | exact nl (by lia) | exact ng (by lia)) (e₁.extBut _ _ (by first | exact nl (by lia) | exact ng (by lia)) e))
  refine ai (SI.stop hh Hw hy λlj e hs₃ he=>?_)
  exact hE lj e (λc o c1 c2 c3 x=>hs₃ _ _ c3 (e₂.extBut _ _ c2 (e₁.extBut _ _ c1 x))) he
end
def ZS(h:Heap)(z TI TO i1 i2 l1 l2 B i:Nat)(xs ys:Array Value):Prop:=(i=0/\Zp h z TI TO i1 i2 l1 l2 .none 0 xs ys)\/(0<i/\∃f,Zq h z TI TO i1 i2 l1 l2 B f i xs ys)
noncomputable def lp(B i:Nat):Array Value:=((List.range i).map λj=>Value.ref (B+j)).toArray
theorem Eg(B i:Nat):(lp B i).push (.ref (B+i))=lp B (i+1):=by
 unfold lp;rw[zU,eV];simp
theorem ua(B i:Nat):(lp B i).size=i:=by unfold lp;simp
section
variable {prog:Program} {w:World} {A:Around} {E:Value->Shared->Prop} {s:Shared} {z TI TO i1 i2 l1 l2 B:Nat} {i:Nat} {xs ys:Array Value}
theorem ZS.zip{h:Heap}(Z:ZS h z TI TO i1 i2 l1 l2 B i xs ys):∃o,h.get? z=some o/\o.cls=.type "zip":=by
 rcases Z with⟨_,Z⟩ | ⟨_,f,Z⟩
 ·exact⟨_,Z.hz,rfl⟩
 ·exact⟨_,Z.hz,rfl⟩
theorem ZS.at{h h':Heap}(Z:ZS h z TI TO i1 i2 l1 l2 B i xs ys)(kp:∀b o,b<=z->h.get? b=some o->h'.get? b=some o)(ka:∀o,h.get? B=some o->∃o',h'.get? B=some o'):ZS h' z TI TO i1 i2 l1 l2 B i xs ys:=by
 rcases Z with⟨e,⟨hz,hTI,⟨a,b,hTO⟩,s1,s2,⟨o1,o2,o3,o4⟩,q1,q2⟩⟩ | ⟨e,f,Z⟩
 ·exact .inl ⟨e,⟨kp _ _ (aA _) hz,kp _ _ (by lia) hTI,⟨a,b,kp _ _ (by lia) hTO⟩,s1.at (λo e=>kp _ o (by lia) e) (λo e=>kp _ o (by lia) e),s2.at (λo e=>kp _ o (by lia) e) (λo e=>kp _ o (by lia) e),⟨o1,o2,o3,o4⟩,q1,q2⟩⟩
 ·exact .inr ⟨e,f,Z.at kp ka⟩
theorem Lu{x y:Value}{Q:Option Value->Shared->Prop}(Z:ZS s.heap z TI TO i1 i2 l1 l2 B i xs ys)(hsz:s.heap.objs.size=B+i)(hx:xs[i]?=some x)(hy:ys[i]?=some y)
  (hQ:∀h',ZS h' z TI TO i1 i2 l1 l2 B (i+1) xs ys->IsPair h' (B+i) x y->h'.objs.size=B+(i+1)->(∀c o,c≠z->c≠TO->c≠i1->c≠i2->s.heap.get? c=some o->h'.get? c=some o)->Q (some (.ref (B+i))) {s with heap:=h'}) :
  wpAny (model prog w) A (pyNext (.ref z)) Q E s:=by
 obtain⟨oz,XF,ZL⟩:=Z.zip;have hT:s.TypeIs (.ref z) "zip":=⟨_,XF,ZL⟩;have ZM:z<s.heap.objs.size:=aI XF;unfold pyNext;rcases Z with⟨rfl,Z⟩ | ⟨hi,f,Z⟩
 ·refine ai (kR (f9 (name:=Str.ofString "__next__") hT gf (fH gf hT mY
   (Cy Z hx hy λh' Z' Nq UR kp=>ar ?_) (mX _))))
  obtain⟨hz,hTI,_,s1,s2,⟨o1,o2,o3,o4⟩,q1,q2⟩:=Z';rw[hsz]at Nq hz ZM ⊢;refine(hQ h' (.inr ⟨Nat.succ_pos _,false,⟨hz,hTI,s1,s2,⟨_,Nq⟩,⟨o1,o2,o3,o4,by lia⟩,q1,q2⟩⟩) Nq (by lia) kp)
 ·refine ai (kR (f9 (name:=Str.ofString "__next__") hT gf (fH gf hT mY
   (Ls Z hx hy λh' Z' Nq UR kp=>ar ?_) (mX _))))
  rw[hsz]at Nq ⊢;exact(hQ h' (.inr ⟨Nat.succ_pos _,true,Z'⟩) Nq (by lia) λc o c1 _ c3 c4 e=>kp c o c1 c3 c4 e)
theorem Lv{Q:Option Value->Shared->Prop}(hh:A.handled=none)(Z:ZS s.heap z TI TO i1 i2 l1 l2 B i xs ys)(yp:xs[i]?=none\/ys[i]?=none)
  (hQ:∀h',(∀c o,c≠z->c≠TO->c≠i1->c≠i2->s.heap.get? c=some o->h'.get? c=some o)->Q none {s with heap:=h'}) :
  wpAny (model prog w) A (pyNext (.ref z)) Q E s:=by
 obtain⟨oz,XF,ZL⟩:=Z.zip;have hT:s.TypeIs (.ref z) "zip":=⟨_,XF,ZL⟩;unfold pyNext;rcases Z with⟨rfl,Z⟩ | ⟨hi,f,Z⟩
 ·refine ai (kR (f9 (name:=Str.ofString "__next__") hT gf (fH gf hT mY (Hv hh Z yp λh' e kp ⟨o,ho,hcl⟩=>?_) (mX _))))
  exact ai (kN (T:="StopIteration") (b:=true) ⟨o,ho,hcl⟩ u0 (ar (hQ h' kp)))
 ·refine ai (kR (f9 (name:=Str.ofString "__next__") hT gf (fH gf hT mY (Qq hh Z yp λh' e kp ⟨o,ho,hcl⟩=>?_) (mX _))))
  exact ai (kN (T:="StopIteration") (b:=true) ⟨o,ho,hcl⟩ u0 (ar (hQ h' λc o c1 _ c3 c4 e=>kp c o c1 c3 c4 e)))
end
section
variable {prog:Program} {w:World} {A:Around} {R:Result->Shared->Prop} {z TI TO i1 i2 l1 l2 S B n:Nat} {xs ys:Array Value}
def mx(h:Heap)(B i:Nat)(xs ys:Array Value):Prop:=∀j,j<i->∃x y,xs[j]?=some x/\ys[j]?=some y/\IsPair h (B+j) x y
theorem Lw(hh:A.handled=none)(hn:n=min xs.size ys.size)(hzS:z<S)(hSB:S<B)(ord:i1<z/\i2<z/\TO<z)(res:Value)(SD:n<=sizeLine) :
  ∀(k i:Nat) (s:Shared) (c:Nat),n-i=k->i<=n->ZS s.heap z TI TO i1 i2 l1 l2 B i xs ys->s.heap.objs.size=B+i->mx s.heap B i xs ys->s.heap.get? S=some {cls:=.type "list",dict:=none,data:=.seq (lp B i) c,slots:=#[]} ->
  (∀h' c',(∀b o,b≠z->b≠TO->b≠i1->b≠i2->b≠S->s.heap.get? b=some o->h'.get? b=some o)->h'.get? S=some {cls:=.type "list",dict:=none,data:=.seq (lp B n) c',slots:=#[]}->mx h' B n xs ys->R (.ok (.ret res)) {s with heap:=h'}) ->
  codeAny (model prog w) A (.builtin "list.extend.loop" ⟨[.ref S,.ref z,res],[]⟩) R s:=by
 intro k;induction k with
 | zero =>
  intro i s c hk hi sg hsz hp hS hR;have AN:i=n:=by lia
  subst AN;refine uX F.entry_extend_loop ?_;rw[uN uQ _];show wpAny _ A.in1 (pyNext (.ref z) >>= _) _ _ s;refine ai (Lv (by simp[hh]) sg ?_ λh' kp=>?_)
  ·rcases Nat.le_total xs.size ys.size with q | q
   ·exact .inl (kE (by lia))
   ·exact .inr (kE (by lia))
  ·refine ar (hR h' c (λb o c1 c2 c3 c4 _ e=>kp b o c1 c2 c3 c4 e) (kp S _ (by lia) (by lia) (by lia) (by lia) hS) λj hj=>?_)
   obtain⟨x,y,e1,e2,e3⟩:=hp j hj;exact⟨x,y,e1,e2,kp _ _ (by lia) (by lia) (by lia) (by lia) e3⟩
 | succ k ih =>
  intro i s c hk hi sg hsz hp hS hR;have vT:i<n:=by lia
  have hx:xs[i]?=some (xs[i]'(by lia)):=pB _
  have hy:ys[i]?=some (ys[i]'(by lia)):=pB _
  refine uX F.entry_extend_loop ?_;rw[uN uQ _];show wpAny _ A.in1 (pyNext (.ref z) >>= _) _ _ s;refine ai (Lu sg hsz hx hy λh' Qg hpr ZN kp=>?_)
  have Nj:=kp S _ (by lia) (by lia) (by lia) (by lia) hS
  show wpAny _ A.in1 (updateSeq S (·.push (.ref (B+i))) >>= _) _ _ _;refine ai ?_;have ZO:=mU (Obj.mapSeq (·.push (Value.ref (B+i)))) Nj rfl;obtain⟨c1,ZO⟩:∃c1,(h'.update S (Obj.mapSeq (·.push (Value.ref (B+i))))).get? S=some {cls:=.type "list",dict:=none,data:=.seq (lp B (i+1)) c1,slots:=#[]}:=⟨_,by rw[<-Eg];exact ZO⟩
  have oth:∀b o,b≠S->h'.get? b=some o->(h'.update S (Obj.mapSeq (·.push (Value.ref (B+i))))).get? b=some o:=λb o hb e=>(jo _ _ (bU hb)).trans e
  refine pS (s:={s with heap:=h'}) Nj rfl (ar ⟨vg uQ _,ih (i+1) _ c1 (by lia) vT (Qg.at (λb o hb e=>oth b o (by lia) e) λo e=>⟨o,oth _ o (by lia) e⟩) ?_ (λj hj=>?_) ?_ λh2 c2 UY hS2 Qr=>?_⟩)
   (by rw[ua];lia) (by show((lp B i).push _).size<=sizeLine+1;rw[Array.size_push,ua];lia)
  ·show(h'.update S _).objs.size=_;rw[uV];exact ZN
  ·by_cases hji:j=i
   ·subst hji;exact⟨_,_,hx,hy,oth _ _ (by lia) hpr⟩
   ·obtain⟨x,y,e1,e2,e3⟩:=hp j (by lia)
    exact⟨x,y,e1,e2,oth _ _ (by lia) (kp _ _ (by lia) (by lia) (by lia) (by lia) e3)⟩
  ·exact ZO
  ·exact hR h2 c2 (λb o c1 c2 c3 c4 c5 e=>UY b o c1 c2 c3 c4 c5 (oth b o c5 (kp b o c1 c2 c3 c4 e))) hS2 Qr
end
theorem AS:typeLookup (.type "zip") "__len__"=pure none:=by rw[zW,zy];kernel_rfl
theorem yr:typeLookup (.type "zip") "__length_hint__"=pure none:=by rw[zW,zy];kernel_rfl
section
variable {prog:Program} {w:World} {A:Around} {E:Value->Shared->Prop} {s:Shared} {R:Result->Shared->Prop} {z TI TO i1 i2 l1 l2 S B n:Nat} {xs ys:Array Value}
theorem Eh{c:Nat}(hh:A.handled=none)(hn:n=min xs.size ys.size)(hzS:z<S)(hB:s.heap.objs.size=B)(hSB:S<B)(ord:i1<z/\i2<z/\TO<z)(res:Value)(SD:n<=sizeLine)
  (Z:Zp s.heap z TI TO i1 i2 l1 l2 .none 0 xs ys) (hS:s.heap.get? S=some {cls:=.type "list",data:=.seq #[] c})
  (hR:∀h' c',(∀b o,b≠z->b≠TO->b≠i1->b≠i2->b≠S->s.heap.get? b=some o->h'.get? b=some o)->h'.get? S=some {cls:=.type "list",dict:=none,data:=.seq (lp B n) c',slots:=#[]}->mx h' B n xs ys->R (.ok (.ret res)) {s with heap:=h'}) :
  wpAny (model prog w) A.in1 (Builtin.List.listExtendWith (.ref S) (.ref z) res)
   (λiJ s'=>match iJ with | .done f=>R (.ok f) s' | .again c'=>c'.quiet=true/\codeAny (model prog w) A c' R s') (λe s'=>R (.error e) s') s:=by
 have hT:s.TypeIs (.ref z) "zip":=⟨_,Z.hz,rfl⟩;unfold Builtin.List.listExtendWith;refine ai (nv hT ?_);have h1:Builtin.List.listSameRef (.ref S) (.ref z)=false:=by
  have:(S==z)=false:=by simp;lia
  exact this
 have h2:(Value.type "zip"==Value.type "list")=false:=by decide
 have h3:(Value.type "zip"==Value.type "tuple")=false:=by decide
 simp only[h1,h2,h3,Bool.or_false,eF,cK];refine ai (zM Z.hz ?_);refine ai (dY ?_);unfold Builtin.List.listLengthHint;refine ai (mZ hT AS ?_);show wpAny _ A.in1 (specialOf (Value.ref z) (Str.ofString "__length_hint__") >>= _) _ _ _;refine ai (mZ hT yr ?_);refine ar ?_;show wpAny _ A.in1 (rule "list.extend.makes-room" >>= λ_=>Builtin.List.listTouch (.ref S) >>= λ_ =>
  again (.builtin "list.extend.loop" ⟨[.ref S,.ref z,res],[]⟩)) _ _ _
 refine ai (iE ?_);refine ai ?_;show wpAny _ A.in1 (updateSeq S (·.push .none) >>= λ_=>updateSeq S (·.pop)) _ _ _
 refine ai (pS hS rfl ?_);have CB:=mU (Obj.mapSeq (·.push Value.none)) hS rfl;refine pS (hz:=by seq_fits) CB rfl ?_
 have Vv:=mU (Obj.mapSeq (·.pop)) CB rfl;have oth:∀b o,b≠S->s.heap.get? b=some o->((s.heap.update S (Obj.mapSeq (·.push Value.none))).update S (Obj.mapSeq (·.pop))).get? b=some o :=
  λb o hb e=>(jo _ _ (bU hb)).trans ((jo _ _ (bU hb)).trans e)
 have Z0:ZS s.heap z TI TO i1 i2 l1 l2 B 0 xs ys:=.inl ⟨rfl,Z⟩;refine ar ⟨vg uQ _,Lw hh hn hzS hSB ord res SD n 0 _ _ rfl (iD _) (Z0.at (λb o hb e=>oth b o (by lia) e) λo e=>?_) ?_ (λj hj=>absurd hj (Nat.not_lt_zero _)) Vv λh' c' kp Nj hp=>?_⟩
 ·have q:=aI e;rw[hB]at q;exact absurd q (fJ _)
 ·show((s.heap.update S _).update S _).objs.size=_;rw[uV,uV];exact hB
 ·exact hR h' c' (λb o c1 c2 c3 c4 c5 e=>kp b o c1 c2 c3 c4 c5 (oth b o c5 e)) Nj hp
theorem sM{Q:Value->Shared->Prop}(hh:A.handled=none)(hn:n=min xs.size ys.size)(SD:n<=sizeLine)(ord:i1<z/\i2<z/\TO<z)(Z:Zp s.heap z TI TO i1 i2 l1 l2 .none 0 xs ys)
  (hQ:∀h' c',(∀b o,b≠z->b≠TO->b≠i1->b≠i2->s.heap.get? b=some o->h'.get? b=some o)->h'.get? s.heap.objs.size=some {cls:=.type "list",dict:=none,data:=.seq (lp (s.heap.objs.size+1) n) c',slots:=#[]}->mx h' (s.heap.objs.size+1) n xs ys->Q (.ref s.heap.objs.size) {s with heap:=h'}) :
  wpAny (model prog w) A (call (.type "list") [.ref z]) Q E s:=by
 refine callType_codes (Q₁:=λobj s₁=>obj=.ref s.heap.objs.size/\s₁={s with heap:=s.heap.push {cls:=.type "list",data:=.seq #[]}}) F.called_list (F.typeCall_list_1 _) F.entry_list_init
  (code_list_new _ ⟨rfl,rfl⟩) λobj s₁ gO=>?_
 obtain⟨rfl,rfl⟩:=gO;have ZM:z<s.heap.objs.size:=aI Z.hz;have hS:(s.heap.push {cls:=.type "list",data:=.seq #[]}).get? s.heap.objs.size=some {cls:=.type "list",data:=.seq #[]}:=bL _ rfl
 refine⟨⟨_,hS,rfl⟩,F.args_list_init_2 _ _,?_⟩;show wpAny _ _ (do let old <-Builtin.List.listItems (.ref s.heap.objs.size);Builtin.List.listUpdate (.ref s.heap.objs.size) (λ_=>#[]);letGo old.toList.reverse;Builtin.List.listExtendWith (.ref s.heap.objs.size) (.ref z) .none) _ _ _
 refine ai ?_;unfold Builtin.List.listItems;refine ai (fI hS rfl (ar ?_));show wpAny _ _ (updateSeq s.heap.objs.size (λ_=>#[]) >>= λ_=>letGo (#[]:Array Value).toList.reverse >>= λ_=>Builtin.List.listExtendWith (.ref s.heap.objs.size) (.ref z) .none) _ _ _
 refine ai (pS hS rfl ?_);have CB:=mU (Obj.mapSeq (λ_=>(#[]:Array Value))) hS rfl
 have oth:∀b o,b≠s.heap.objs.size->s.heap.get? b=some o->((s.heap.push {cls:=.type "list",data:=.seq #[]}).update s.heap.objs.size (Obj.mapSeq (λ_=>(#[]:Array Value)))).get? b=some o :=
  λb o hb e=>(jo _ _ (bU hb)).trans (aJ _ e)
 refine ai (p6 ?_);have Z1:ZS ((s.heap.push {cls:=.type "list",data:=.seq #[]}).update s.heap.objs.size (Obj.mapSeq (λ_=>(#[]:Array Value)))) z TI TO i1 i2 l1 l2 0 0 xs ys :=
  ZS.at (h:=s.heap) (.inl ⟨rfl,Z⟩) (λb o hb e=>oth b o (by lia) e) λo e=>⟨o,oth _ o (by lia) e⟩
 rcases Z1 with⟨_,Z1⟩ | ⟨h0,_⟩
 ·refine Eh (A:=A.in1) (by simp[hh]) hn ZM (B:=s.heap.objs.size+1) ?_ (pO _) ord .none SD Z1 CB λh' c' kp Nj hp=>⟨rfl,?_⟩
  ·show((s.heap.push _).update _ _).objs.size=_;rw[uV,eG]
  ·exact hQ h' c' (λb o c1 c2 c3 c4 e=>kp b o c1 c2 c3 c4 (bC (aI e)) (oth b o (bC (aI e)) e)) Nj hp
 ·exact absurd h0 (fJ _)
end
theorem ub{vs:List V}{us:List Value}(r:Vals vs us):∀{i:Nat} {u:Value},us[i]?=some u->∃v,vs[i]?=some v/\RelV v u:=by
 induction r with
 | nil=>intro i u e;simp at e
 | @cons v w vs ws h t ih =>
  intro i u e;cases i with
  | zero=>simp at e;subst e;exact⟨v,rfl,h⟩
  | succ i=>obtain⟨x,h1,h2⟩:=ih (i:=i) (u:=u) (by simpa using e);exact⟨x,by simpa using h1,h2⟩
theorem Ei(B n:Nat):Vals ((List.range n).map λj=>V.ref (B+j)) (lp B n).toList:=by
 unfold lp;induction n with
 | zero=>exact .nil
 | succ n ih =>
  rw[zU,eV,eV];exact ih.append (.cons rfl .nil)
theorem yt{X:Cx}{ah:List (Addr×Obj)}{σ:St}{H1 af:Hp}{ag F1:Fz}{st:b8}{s:Shared}{B m:Nat}{xs ys:List Value}{vs ws:List V}{ps qs:List PV}(b0:Nat)(hb0:b0<=B)(fo:∀b,b0<=b->H1 b=none/\qj X ah H1 b)(hsz:X.s₀.heap.objs.size<=b0)(I:Inv X ah σ H1 s)(R:Rep X.K af ag F1 st σ H1)(r1:Vals vs xs)(r2:Vals ws ys)(b1:ay X.K F1 ps vs)(b2:ay X.K F1 qs ws)
  (hp:mx s.heap B m xs.toArray ys.toArray):∀i,i<=m->∃Hi Fi,Inv X ah σ Hi s/\Rep X.K af ag Fi st σ Hi/\Gr F1 Fi/\ay X.K Fi ((List.zipWith fW ps qs).take i) ((List.range i).map λj=>V.ref (B+j))/\∀b,b0<=b->(b<B\/B+i<=b)->Hi b=none:=by
 intro i;induction i with
 | zero=>intro _;exact⟨H1,F1,I,R,Gr.refl _,by simp only[List.take_zero,List.range_zero,dZ];exact .nil,λb hb _=>(fo b hb).1⟩
 | succ i ih =>
  intro hi;obtain⟨Hi,Fi,Ii,Ri,si,bi,ni⟩:=ih (by lia)
  obtain⟨x,y,e1,e2,e3⟩:=hp i hi;obtain⟨v,ev,rv⟩:∃v,vs[i]?=some v/\RelV v x:=by
   exact ub r1 (by simpa using e1)
  obtain⟨w,ew,Kl⟩:∃w,ws[i]?=some w/\RelV w y:=by
   exact ub r2 (by simpa using e2)
  obtain⟨p,ep⟩:∃p,ps[i]?=some p:=⟨_,dU (by have:=(dF.mp ev).1;rw[b1.length];exact this)⟩
  obtain⟨v',ev',bp⟩:=b1.get ep;cases aZ (ev.symm.trans ev');obtain⟨q,eq'⟩:∃q,qs[i]?=some q:=⟨_,dU (by have:=(dF.mp ew).1;rw[b2.length];exact this)⟩
  obtain⟨w',ew',bq⟩:=b2.get eq';cases aZ (ew.symm.trans ew');have hn:Hi (B+i)=none:=ni (B+i) (by lia) (.inr (aA _))
  obtain⟨_,f2,f3,f4,f5,f6⟩:=(fo (B+i) (by lia)).2
  have I2:=Inv.adopt (D:=B+i) (o:=.au [v,w]) Ii hn (aR hsz (by lia)) f2 f5 f6 ⟨(by show 2<=sizeLine;decide),[x,y],.cons rv (.cons Kl .nil),⟨_,e3,rfl,⟨0,rfl⟩,rfl⟩⟩
  obtain⟨R2,s2⟩:=Ri.laid (.au [v,w]) hn;refine⟨_,_,I2,R2,si.trans s2,?_,λb hb hc=>?_⟩
  ·have hz:(List.zipWith fW ps qs)[i]?=some (fW p q):=by rw[List.getElem?_zipWith,ep,eq']
   rw[List.take_succ,hz,zU,eV];exact(bi.mono s2).append (.cons (bO.mpr ⟨B+i,[v,w],rfl,iG.of aB,.cons (bp.mono (si.trans s2)) (.cons (bq.mono (si.trans s2)) .nil)⟩) .nil)
  ·rw[aN (show b≠B+i from λz=>by lia)]
   exact ni b hb (by lia)
def lzO(p q:PV):Option (List PV):=(oE p).bind λps=>(oE q).bind λqs=>if(List.zipWith fW ps qs).length<=ic then some (List.zipWith fW ps qs)else none
def Qs(m:Nat)(fa fb:Gx PV):Gx PV:=bnd fa λp=>bnd fb λq=>bnd (jd (lzO p q)) λl=>lg m l
section
variable {X:Cx} {af:Hp} {ag:Fz} {a b:Expr} {fa fb:Gx PV} {pos p yi zp:Pos} {m:Nat}
def Qt(hh:X.A.handled=none)(Vm:Gl X "list")(Vn:X.mg "list"=none)(hg:Gl X "zip")(hm:X.mg "zip"=none)(ha:PE X a (tE X af ag fa))(hb:PE X b (tE X af ag fb))(hs:starEach [a,b] X.env=(false,eval a X.env)::starEach [b] X.env)(DF:starEach [b] X.env=[(false,eval b X.env)]) :
  PE X (.Call (.Name "list" p) [.Call (.Name "zip" zp) [a,b] [] yi] [] pos) (tE X af ag (Qs m fa fb)):=by
 rintro ah s σ H Q I ⟨F,st,Rp,h⟩
 refine jq (ld_blt I Vm Vn (iN .list) ?_ (by decide) (by decide))
 refine hZ (Ct rfl ?_) rfl rfl;have hA:=gY ha (gY hb qu DF) hs yi ah s σ H (λvs H'=>∃F' st' x y pa pb,vs=[x,y]/\Rep X.K af ag F' st' σ H'/\bj X.K F' pa x/\bj X.K F' pb y/\Tx X af ag (bj X.K) F' st' (bnd (jd (lzO pa pb)) λl=>lg m l) σ Q) I
  ⟨F,st,Rp,h.bnd λpa v F1 st1 H1 R1 g1 b1 h1=>⟨F1,st1,R1,h1.bnd λpb w F2 dE H2 R2 g2 b2 h2=>⟨F2,dE,v,w,pa,pb,rfl,R2,b1.mono g2,b2,h2⟩⟩⟩
 refine Call_ (ld_blt I hg hm boot_zip (hZ (thn hA λus s1 z9=>?_) hs (by rw[DF];rfl)))
 obtain⟨vs,H1,I1,r1,F1,st1,x,y,pa,pb,ev,R1,b1,b2,hT⟩:=z9;subst ev;obtain⟨l,e,hT⟩:=At.jd (At.bnd hT);obtain⟨ps,f3,e⟩:=aO e;obtain⟨qs,f4,e⟩:=aO e;obtain⟨Az,rfl⟩:=aD e;obtain⟨u1,u2,rfl,P1,Vo⟩:=BM r1;obtain⟨c1,l1,vs1,rfl,q1,Sz,k1⟩:=jK f3 b1;obtain⟨c2,l2,vs2,rfl,q2,XG,k2⟩:=jK f4 b2;cases P1;cases Vo;obtain⟨ax,v1,Ld⟩:=(k1 H1 R1.sub).get I1;obtain⟨eK,v2,SE⟩:=(k2 H1 R1.sub).get I1;have lt:∀{l:Addr} {xs:Array Value} {c:String},iq s1.heap l xs c->l<s1.heap.objs.size:=λh=>by
  rcases h with⟨_,⟨o,e,_⟩⟩ | ⟨_,⟨o,e,_⟩⟩
  ·exact aI e
  ·exact aI e
 have Le:=lt Ld;have M7:=lt SE;refine callType_new PySem.F.called_zip (by decide) (PySem.F.typeCall_zip_2 _ _) (PySem.F.newCall_zip_2 _ _) (λobj=>Fd obj _ _) PySem.F.entry_zip_new (yq l1 l2 ax.toArray eK.toArray (kl c1) (kl c2)) ⟨Ld,SE,λh1 h2 h3 h4 e1 e2 e3 e4=>?_⟩
 have z1:h1.objs.size=s1.heap.objs.size+1:=by rw[e1];exact eG ..
 have z2:h2.objs.size=s1.heap.objs.size+2:=by rw[e2,eG,z1]
 have z3:h3.objs.size=s1.heap.objs.size+3:=by rw[e3,eG,z2]
 have z4:h4.objs.size=s1.heap.objs.size+4:=by rw[e4,eG,z3]
 generalize e5:h4.push {cls:=.type "zip",data:=.fields #[.none,.bool false,.bool false,.ref h2.objs.size,.ref h3.objs.size]}=h5
 have z5:h5.objs.size=s1.heap.objs.size+5:=by rw[<-e5,eG,z4]
 have p1:∀b o,s1.heap.get? b=some o->h1.get? b=some o:=λb o e=>by rw[e1];exact aJ _ e
 have p2:∀b o,h1.get? b=some o->h2.get? b=some o:=λb o e=>by rw[e2];exact aJ _ e
 have p3:∀b o,h2.get? b=some o->h3.get? b=some o:=λb o e=>by rw[e3];exact aJ _ e
 have p4:∀b o,h3.get? b=some o->h4.get? b=some o:=λb o e=>by rw[e4];exact aJ _ e
 have p5:∀b o,h4.get? b=some o->h5.get? b=some o:=λb o e=>by rw[<-e5];exact aJ _ e
 have pp:∀b o,s1.heap.get? b=some o->h5.get? b=some o:=λb o e=>p5 _ _ (p4 _ _ (p3 _ _ (p2 _ _ (p1 _ _ e))))
 have g5:IsZip h5 h4.objs.size h2.objs.size h3.objs.size .none:=by rw[<-e5];exact bL _ rfl
 have g4:IsPair h5 h3.objs.size .none .none:=p5 _ _ (by rw[e4];exact bL _ rfl)
 have g3:IsPair h5 h2.objs.size (.ref s1.heap.objs.size) (.ref h1.objs.size):=p5 _ _ (p4 _ _ (by rw[e3];exact bL _ rfl))
 have g2:h5.get? h1.objs.size=some {cls:=.type (kl c2),data:=.fields #[.ref l2,.int 0 0]}:=p5 _ _ (p4 _ _ (p3 _ _ (by rw[e2];exact bL _ rfl)))
 have g1:h5.get? s1.heap.objs.size=some {cls:=.type (kl c1),data:=.fields #[.ref l1,.int 0 0]}:=p5 _ _ (p4 _ _ (p3 _ _ (p2 _ _ (by rw[e1];exact bL _ rfl))))
 have sic:∀{c:Bool} {it l:Addr} {xs:Array Value},h5.get? it=some {cls:=.type (kl c),data:=.fields #[.ref l,.int 0 0]}->iq s1.heap l xs (kl c)->SI h5 it l 0 xs:=λ{c it l xs} e k=>by
  cases c with
  | true =>
   rcases k with⟨_,⟨o,eo,r⟩⟩ | ⟨k,_⟩
   ·exact .inl ⟨⟨_,e,rfl,rfl⟩,⟨o,pp _ _ eo,r⟩⟩
   ·exact absurd k (by decide)
  | false =>
   rcases k with⟨k,_⟩ | ⟨_,⟨o,eo,r⟩⟩
   ·exact absurd k (by decide)
   ·exact .inr ⟨⟨_,e,rfl,rfl⟩,⟨o,pp _ _ eo,r⟩⟩
 have Z:Zp h5 h4.objs.size h2.objs.size h3.objs.size s1.heap.objs.size h1.objs.size l1 l2 .none 0 ax.toArray eK.toArray:=⟨g5,g3,⟨_,_,g4⟩,sic g1 Ld,sic g2 SE,⟨by lia,by lia,by lia,by lia⟩,Le,M7⟩
 refine⟨⟨_,g5,rfl⟩,?_⟩;have ad8:=Sz.length;have ad9:=XG.length;have vl1:=v1.length;have vl2:=v2.length;have ZP:min ax.toArray.size eK.toArray.size=(List.zipWith fW ps qs).length:=by rw[List.length_zipWith,cx,cx];lia
 refine sM (s:={s1 with heap:=h5,toks:=s1.toks}) hh ZP.symm (d7 Az) ⟨by lia,by lia,by lia⟩ Z λh' c' kp hS hp=>?_
 have hS:h'.get? h5.objs.size=some {cls:=.type "list",dict:=none,data:=.seq (lp (h5.objs.size+1) (List.zipWith fW ps qs).length) c',slots:=#[]}:=hS
 have I2:Inv X ah σ H1 {s1 with heap:=h',toks:=s1.toks}:=I1.kept λb o e=>by
  have hb:@LT.lt Nat _ b s1.heap.objs.size:=aI e;exact kp b o (show @Ne Nat _ _ by lia) (show @Ne Nat _ _ by lia) (show @Ne Nat _ _ by lia) (show @Ne Nat _ _ by lia) (pp _ _ e)
 have fo:∀b,s1.heap.objs.size<=b->H1 b=none/\qj X ah H1 b:=λb hb=>⟨I1.hok.fresh hb,I1.vy hb (I1.hok.fresh hb)⟩
 obtain⟨Hn,Fn,In,Rn,sn,bn,nn⟩:=yt s1.heap.objs.size (B:=h5.objs.size+1) (by lia) fo I1.sz I2 R1 v1 v2 Sz XG hp _ (aA _)
 rw[List.take_length]at bn;have hnS:Hn h5.objs.size=none:=nn _ (by lia) (.inl (by lia))
 obtain⟨_,f2,f3,f4',f5,f6⟩:=(fo h5.objs.size (by lia)).2
 have I3:=Inv.adopt (D:=h5.objs.size) (o:=.lst ((List.range (List.zipWith fW ps qs).length).map λj=>V.ref (h5.objs.size+1+j))) In hnS (aR I1.sz (by lia)) f2 f5 f6
  ⟨by simp only[aT,pN];exact d7 Az,(lp (h5.objs.size+1) (List.zipWith fW ps qs).length).toList,c',Ei _ _,by simpa using hS⟩
 exact⟨.ref h5.objs.size,_,I3,rfl,Tx.lg (Tx.mono hT sn λ_ _ z=>z) Rn hnS bn⟩
end
section
variable {X:Cx}
theorem vZ{α:Type}(xs:List α):∀n:Nat,(List.replicate n xs).flatten.length=n*xs.length
 | 0=>by simp
 | n+1=>by rw[gC,kJ,bB,vZ xs n,Nat.succ_mul,Nat.add_comm]
theorem v5(ax:List Value):∀(m:Nat) (acc:List Value),List.foldl (λx1 x2=>x1++x2) acc.toArray (List.replicate m ax.toArray)=(acc++(List.replicate m ax).flatten).toArray
 | 0,acc=>by simp
 | m+1,acc=>by
  rw[gC,kQ,show acc.toArray++ax.toArray=(acc++ax).toArray by simp,v5 ax m,gC,kJ,js]
theorem qT{xs:List V}{ax:List Value}(r:Vals xs ax):∀n:Nat,Vals (List.replicate n xs).flatten (List.replicate n ax).flatten
 | 0=>.nil
 | n+1=>by rw[gC,gC,kJ,kJ];exact r.append (qT r n)
theorem v7{K:W.Frag}{F:Fz}{ps:List PV}{vs:List V}(r:ay K F ps vs):∀n:Nat,ay K F (List.replicate n ps).flatten (List.replicate n vs).flatten
 | 0=>.nil
 | n+1=>by rw[gC,gC,kJ,kJ];exact r.append (v7 r n)
def Vw(K:W.Frag):R2:=λx y H Q=>∃l k xs,x=.ref l/\y=.int k/\iH K H l xs /\ -(2^63)<=k/\k<2^63/\xs.length*k.toNat<=sizeLine /\
 ∀p,H p=none->Q (.ref p) (cU H p (.lst (List.replicate k.toNat xs).flatten))
theorem Lx:OpR X (binaryOp .Mult) (Vw X.K):=by
 intro ah s σ H x y v u Q I rx ry h;obtain⟨l,k,xs,rfl,rfl,hH,h1,h2,hz,q⟩:=h;cases rx;obtain⟨t,rfl⟩:=ry;obtain⟨ax,n,r,e,z⟩:=I.lX hH;have hl:=r.length;have eX:ax.toArray.size*k.toNat<=sizeLine:=by rw[cx,<-hl];exact hz
 have ZQ:¬ax.toArray.size*k.toNat>(2^63-1)/8:=by
  have:(sizeLine:Nat)<=(2^63-1)/8:=by decide
  lia
 have UK:¬(!Builtin.List.listFitsIndex k)=true:=by
  rw[fitsIndex_both h1 h2];exact cw
 have Vx:¬Builtin.List.listTooLong (ax.toArray.size*k.toNat)=true:=by
  rw[xJ eX];exact cw
 have qQ:List.foldl (λx1 x2=>x1++x2) #[] (List.replicate (if ax.toArray.isEmpty=true then 0 else k.toNat) ax.toArray)=(List.replicate k.toNat ax).flatten.toArray:=by
  have f0:∀m:Nat,List.foldl (λx1 x2=>x1++x2) #[] (List.replicate m ax.toArray)=(List.replicate m ax).flatten.toArray:=λm=>by
   have:=v5 ax m [];rw[dG]at this;exact this
  rw[f0];cases ax with
  | nil=>simp
  | cons a r'=>rw[if_neg (by simp)]
 refine wpAny_binaryOp_repeat_ref (T:="list") (U:="int") (by decide) ⟨_,e,rfl⟩ (λs'=>p7 s' k t) noFill_list_mul F.fills_int_mul F.slot_int_rmul repeat_list F.slot_int_index.lookup
  (gh F.slot_int_rmul (p7 s k t) F.entry_int_rmul (F.args_int_rmul_2 _ _) (int___rmul___int_list k t l ax.toArray n)
   ⟨e,rfl,⟨_,e,rfl⟩,gh F.slot_list_mul ⟨_,e,rfl⟩ F.entry_list_mul (F.args_list_mul_2 _ _) (AutoListH.list___mul___list_int_3 l ax.toArray n k t UK ZQ Vx) ⟨e,?_⟩⟩)
 rw[qQ];exact⟨.ref _,_,I.O6 (t':=s.toks) (qT r k.toNat) (by rw[vZ,Nat.mul_comm];exact hz),rfl,q _ I.fresh⟩
theorem Ej:fillsNumberSlot (.type "tuple") "mul"=pure false:=PySem.fillsNumberSlot_seq (id:="tuple.__mul__") (r:=some (.builtin "tuple.__rmul__")) F.slot_tuple_mul.lookup (by decide +kernel) F.slot_tuple_rmul.lookup (by decide +kernel)
theorem Qu:seqRepeat? (.type "tuple")=pure (some (.builtin "tuple.__mul__")):=by
  unfold seqRepeat?;rw[PySem.seqSlot_of (T:="tuple") (name:="__mul__") (id:="tuple.__mul__") F.slot_tuple_mul.lookup (by decide +kernel),PySem.seqSlot_of (T:="tuple") (name:="__rmul__") (id:="tuple.__rmul__") F.slot_tuple_rmul.lookup (by decide +kernel)]
  rfl
theorem Ly(a:Int)(t:Tok)(l:Addr)(items:Array Value)(n:Nat)(Nh:Option Addr)(sl:Array (Option Value)) :
    Meets (Builtin.«int.__rmul__» ⟨[.int a t,.ref l],[]⟩) (λ_ R s=>s.heap.get? l=some {cls:=.type "tuple",dict:=Nh,data:=.seq items n,slots:=sl}/\R (.ok (.ret Value.notImplemented)) s) :=
  .of_wp λprog w A R s h=>by
    obtain⟨hp,g,d,tk,os⟩:=s;obtain⟨hl,h⟩:=h
    wp_walk
    exact⟨_,rfl,h⟩
theorem Qv(l:Addr)(items:Array Value)(n:Nat)(u:Tok)(Nh:Option Addr)(sl:Array (Option Value)) :
    Meets (Builtin.«tuple.__mul__» ⟨[.ref l,.int 1 u],[]⟩) (λ_ R s=>s.heap.get? l=some {cls:=.type "tuple",dict:=Nh,data:=.seq items n,slots:=sl}/\R (.ok (.ret (.ref l))) s) :=
  .of_wp λprog w A R s h=>by
    obtain⟨hp,g,d,tk,os⟩:=s;obtain⟨hl,h⟩:=h
    wp_walk
    exact⟨_,rfl,h⟩
theorem Lz(l:Addr)(items:Array Value)(n:Nat)(x:Int)(u:Tok)(Nh:Option Addr)(sl:Array (Option Value))(h2:2<=x)(h3:x<=1000)(ne:items.isEmpty=false)(hz:items.size<=1000) :
    Meets (Builtin.«tuple.__mul__» ⟨[.ref l,.int x u],[]⟩) (λ_ R s=>s.heap.get? l=some {cls:=.type "tuple",dict:=Nh,data:=.seq items n,slots:=sl}/\R (.ok (.ret (.ref s.heap.objs.size))) {s with heap:=s.heap.push {cls:=.type "tuple",data:=.seq (List.foldl (λx1 x2=>x1++x2) #[] (List.replicate x.toNat items))}}) :=
  .of_wp λprog w A R s h=>by
    obtain⟨hp,g,d,tk,os⟩:=s;obtain⟨hl,h⟩:=h;have hx:(items.size:Int)*x<=1000*1000:=by
      have h0:(0:Int)<=items.size:=Int.natCast_nonneg _;have h1:(items.size:Int)<=1000:=by lia
      exact Int.mul_le_mul h1 h3 (by lia) (by lia)
    have hsz:(List.foldl (λx1 x2=>x1++x2) #[] (List.replicate x.toNat items)).size<=sizeLine:=by
      rw[AutoListH.size_joined,kT];have h4:x.toNat*items.size<=1000*1000:=u7 (by lia) hz
      simp
      lia
    wp_walk
    refine pQ (cZ ?_) ?_
    · simp
      lia
    wp_walk
    refine pQ (cZ ?_) ?_
    · rw[ne]
      simp
      lia
    wp_walk
    refine pQ (cZ ?_) ?_
    · rw[ne]
      simp
      lia
    wp_walk
    refine pQ (cZ ?_) ?_
    · lia
    wp_walk
    refine pQ (cZ ?_) ?_
    · unfold Builtin.Tuple.tupleTooMany
      rw[kT];simp
      lia
    wp_walk
    exact⟨_,rfl,h⟩
theorem LA(l:Addr)(items:Array Value)(n:Nat)(u:Tok)(Nh:Option Addr)(sl:Array (Option Value))(ne:items.isEmpty=false) :
  Meets (Builtin.«tuple.__mul__» ⟨[.ref l,.int 0 u],[]⟩) (λ_ R s=>s.heap.get? l=some {cls:=.type "tuple",dict:=Nh,data:=.seq items n,slots:=sl}/\R (.ok (.ret (.ref s.heap.objs.size))) {s with heap:=s.heap.push {cls:=.type "tuple",data:=.seq #[]}}) :=
 .of_wp λprog w A R s h=>by
  obtain⟨hp,g,d,tk,os⟩:=s;obtain⟨hl,h⟩:=h
  wp_walk
  exact⟨_,rfl,h⟩
theorem Qw{xs:List PV}{j:Int}(h1:0<=j)(h2:j<=1000)(h3:1<=xs.length)(h4:xs.length<=100){ah:List (Addr×Obj)}{s:Shared}{σ τ:St}{H af:Hp}{ag F:Fz}{st:b8}{x y:V}{v u:Value}{Q:V->Hp->Prop}(I:Inv X ah σ H s)(rx:RelV x v)(ry:RelV y u)(R:Rep X.K af ag F st τ H)(ba:bj X.K F (.au xs) x)(bb:bj X.K F (.int j) y)
    (k:∀v' H' F',Rep X.K af ag F' st τ H'->Gr F F'->bj X.K F' (.au (List.replicate j.toNat xs).flatten) v'->Q v' H'):wpAny (model X.prog X.w) X.A (binaryOp .Mult v u) (EP X ah σ Q) X.xe s:=by
  obtain⟨a,vs,rfl,ha,gA⟩:=bO.mp ba;rw[aE.mp bb]at ry;cases rx;obtain⟨t,rfl⟩:=ry;obtain⟨ax,r,pl,_⟩:=I.tuple (cP R.sub ha);obtain⟨⟨cls,dd,data,sl⟩,e,hc,n,hd⟩:=id pl;simp only at hc hd;subst hc hd;have hl:=r.length;have hxl:=gA.length;refine wpAny_binaryOp_repeat_ref (T:="tuple") (U:="int") (by decide) ⟨_,e,rfl⟩ (λs'=>p7 s' j t) Ej PySem.F.fills_int_mul PySem.F.slot_int_rmul Qu PySem.F.slot_int_index.lookup
    (gh PySem.F.slot_int_rmul (p7 s j t) PySem.F.entry_int_rmul (PySem.F.args_int_rmul_2 _ _) (Ly j t a ax.toArray n dd sl) ⟨e,rfl,⟨_,e,rfl⟩,?_⟩)
  have nt:ax.toArray.isEmpty=false:=by
    cases ax with
    | nil=>rw[m9]at hl;lia
    | cons _ _=>simp
  by_cases hj0:j=0
  · subst hj0
    refine gh zw ⟨_,e,rfl⟩ zo (zm _ _) (LA a ax.toArray n t dd sl nt) ⟨e,?_⟩;obtain⟨R2,s2⟩:=R.laid (.au []) I.fresh;exact⟨.ref s.heap.objs.size,_,I.laid (t':=s.toks) (o:=.au []) (λb ob q=>aJ _ q) (aA _) ⟨iD _,[],.nil,oi.new _ _⟩,rfl,k _ _ _ R2 s2 (bO.mpr ⟨_,_,rfl,iG.of aB,.nil⟩)⟩
  by_cases hj:j=1
  · subst hj
    refine gh zw ⟨_,e,rfl⟩ zo (zm _ _) (Qv a ax.toArray n t dd sl) ⟨e,?_⟩;refine⟨.ref a,H,I,rfl,k _ H F R (Gr.refl F) ?_⟩;simpa using ba
  · refine gh zw ⟨_,e,rfl⟩ zo (zm _ _) (Lz a ax.toArray n j t dd sl (by lia) h2 nt (by rw[cx];lia)) ⟨e,?_⟩
    have qQ:List.foldl (λx1 x2=>x1++x2) #[] (List.replicate j.toNat ax.toArray)=(List.replicate j.toNat ax).flatten.toArray:=by
      have:=v5 ax j.toNat [];rw[dG]at this;exact this
    rw[qQ];obtain⟨R2,s2⟩:=R.laid (.au (List.replicate j.toNat vs).flatten) I.fresh;have eX:(List.replicate j.toNat vs).flatten.length<=sizeLine:=by
      rw[vZ,kT];have:j.toNat*vs.length<=1000*100:=u7 (by lia) (by lia)
      lia
    exact⟨.ref s.heap.objs.size,_,I.laid (t':=s.toks) (o:=.au (List.replicate j.toNat vs).flatten) (λb ob q=>aJ _ q) (aA _) ⟨eX,_,qT r j.toNat,oi.new _ _⟩,rfl,k _ _ _ R2 s2 (bO.mpr ⟨_,_,rfl,iG.of aB,(v7 gA j.toNat).mono s2⟩)⟩
def Qx{x':Str}{j:Int}(h1:2<=j)(h2:j<=100)(h3:1<=x'.length)(h4:x'.length<=100){ah:List (Addr×Obj)}{s:Shared}{σ τ:St}{H af:Hp}{ag F:Fz}{st:b8}{x y:V}{v u:Value}{Q:V->Hp->Prop}(I:Inv X ah σ H s)(rx:RelV x v)(ry:RelV y u)(R:Rep X.K af ag F st τ H)(ba:bj X.K F (.str x') x)(bb:bj X.K F (.int j) y)
 (k:∀v' H' F',Rep X.K af ag F' st τ H'->Gr F F'->bj X.K F' (.str (Txt.mul x' j)) v'->Q v' H'):wpAny (model X.prog X.w) X.A (binaryOp .Mult v u) (EP X ah σ Q) X.xe s:=by
 rw[aE.mp bb]at ry;rw[bN.mp ba]at rx;obtain⟨t,rfl⟩:=rx;obtain⟨t',rfl⟩:=ry;refine SB.mul ⟨by simp;lia,λ_ _=>?_,λ_ _=>?_⟩ λt' m=>⟨.str _,H,I.kept (t':=m) (λ_ _ e=>e),⟨t',rfl⟩,k _ H F R (Gr.refl F) (bN.mpr rfl)⟩
 ·have:100<=(2^63-1:Int)/j:=by
   rw[Int.le_ediv_iff_mul_le (by lia)]
   lia
  lia
 ·unfold Builtin.Str.tooLong;have:x'.length*j.toNat<=100*100:=u7 h4 (by lia)
  exact cZ (Nat.not_lt.mpr (aR this (by decide)))
def ZR(h:List aj)(p:PV)(j:Int):Option (List PV):=(ox h p).bind λxs=>if(-1000<=j/\j<=1000/\xs.length<=100)then some (List.replicate j.toNat xs).flatten else none
noncomputable def Ju:Nat:=1606938044258990275541962092341162602522202993782792835301376
theorem AU{i j:Int}(h:i.natAbs<Ju/\j.natAbs<Ju):IntMulOk i j:=by
 have h1:Builtin.Int.intBits i<=200:=PyProof.Rows.intBits_le (cm h.1 (by decide))
 have h2:Builtin.Int.intBits j<=200:=PyProof.Rows.intBits_le (cm h.2 (by decide))
 have hc:Builtin.Int.intTooBig (Builtin.Int.intBits i+Builtin.Int.intBits j)=false:=by
  unfold Builtin.Int.intTooBig bitsLine;exact cZ (by lia)
 unfold IntMulOk;rw[hc];simp
def ZT:G2:=nD (λi j=>decide (((-oy<i/\i<oy)\/(-oy<j/\j<oy))\/(i.natAbs<Ju/\j.natAbs<Ju))) λi j=>.int (i*j)
theorem Hx:oY X (binaryOp .Mult) ZT:=eY (C:=IntMulOk) (TM λ_ _ _ _ _ _ _ hc q=>mul_int q hc) (λi j e=>by
 rcases iA e with h | h
 ·exact J2.ok h
 ·exact AU h) λ_ _ _=>aE.mpr rfl
def jO:G2:=λh p q=>match p,q with
 | .int i,.int j=>if(((-oy<i/\i<oy)\/(-oy<j/\j<oy))\/(i.natAbs<Ju/\j.natAbs<Ju))then some (.int (i*j))else none
 | .nd .au xs,.int j=>if(0<=j/\j<=1000/\1<=xs.length/\xs.length<=100)then some (.au (List.replicate j.toNat xs).flatten)else none
 | .str x,.int j=>if(2<=j/\j<=100/\1<=x.length/\x.length<=100)then some (.str (Txt.mul x j))else none
 | p,.int j=>(ZR h p j).map .lst
 | _,_=>none
theorem Qy{xs:List PV}{vs:List V}{F:Fz}{j:Int}(h:-1000<=j/\j<=1000/\xs.length<=100)(b:ay X.K F xs vs):-(2^63)<=j/\j<2^63/\vs.length*j.toNat<=sizeLine:=by
 refine⟨by lia,by lia,?_⟩
 have:=b.length;rw[kT];have:vs.length*j.toNat<=100*1000:=u7 (by lia) (by lia)
 lia
theorem Hy:oY X (binaryOp .Mult) jO:=by
 intro ah s σ H x y v u Q I rx ry ⟨af,ag,F,st,τ,pa,pb,p,e,R,ba,bb,k⟩;unfold jO at e;split at e
 ·rename_i i j;obtain⟨hc,rfl⟩:=aD e;exact Hx ah s σ H x y v u Q I rx ry ⟨af,ag,F,st,τ,.int i,.int j,.int (i*j),(show(if decide (((-oy<i/\i<oy)\/(-oy<j/\j<oy))\/(i.natAbs<Ju/\j.natAbs<Ju))=true then some (PV.int (i*j))else none)=_ from if_pos (dW hc)),R,ba,bb,k⟩
 ·obtain⟨⟨h1,h2,h3,h4⟩,rfl⟩:=aD e;exact Qw h1 h2 h3 h4 I rx ry R ba bb k
 ·obtain⟨⟨h1,h2,h3,h4⟩,rfl⟩:=aD e;exact Qx h1 h2 h3 h4 I rx ry R ba bb k
 ·obtain⟨qs,e1,rfl⟩:=aQ e;obtain⟨xs,e2,e1⟩:=aO e1;obtain⟨hc,rfl⟩:=aD e1;obtain⟨a,vs,rfl,ha,gA⟩:=R.at (eP e2) ba;obtain⟨c1,c2,c3⟩:=Qy hc gA;refine Lx ah s σ H _ y v u Q I rx ry ⟨a,_,vs,rfl,aE.mp bb,ha,c1,c2,c3,λp hp=>?_⟩
  obtain⟨R2,s2⟩:=R.laid (.lst (List.replicate _ vs).flatten) hp;exact k _ _ _ R2 s2 (dw.mpr ⟨p,_,rfl,iH.of aB,(v7 gA _).mono s2⟩)
 ·cases e
def LB(op:Operator):Option G2:=match op with
 | .Mult=>some jO
 | op=>Pt op
theorem Hz{op:Operator}{g:G2}(h:LB op=some g):oY X (binaryOp op) g:=by
 cases op<;>first | (cases h;exact Hy) | exact KD h
end
def Itz(K:W.Frag)(c1 c2:Bool)(l1 l2:Addr):It where
 go:=λi H=>∃vs ws v w,sj K H c1 l1 vs/\sj K H c2 l2 ws/\vs[i]?=some v/\ws[i]?=some w
 yld:=λi H x H'=>∃T v w,H T=none/\x=.ref T/\H'=cU H T (.au [v,w])/\∀vs ws,sj K H c1 l1 vs->sj K H c2 l2 ws->vs[i]?=some v/\ws[i]?=some w
 stop:=λi H=>∃vs ws,sj K H c1 l1 vs/\sj K H c2 l2 ws/\(vs.length<=i\/ws.length<=i)
def zTn(z TI TO i1 i2 l1 l2:Nat)(c1 c2:Bool)(i:Nat)(h:Heap):Prop:=IsZip h z TI TO .none/\IsPair h TI (.ref i1) (.ref i2)/\(∃a b,IsPair h TO a b)/\E3 h c1 i1 l1 i/\E3 h c2 i2 l2 i
theorem HA{P:Program}{w:World}{K:W.Frag}{elts:List Expr}{x1:Nat}{qt:Pos}{z TI TO i1 i2 l1 l2:Nat}{c1 c2:Bool}(ord:i1<i2/\i2<TI/\TI<TO/\TO<z)(o1:l1<i1)(o2:l2<i1) :
  Turn P w K (.Tuple elts x1 qt) (Itz K c1 c2 l1 l2) [z,TI,TO,i1,i2] z (zTn z TI TO i1 i2 l1 l2 c1 c2) where
 mem:=du
 obj:=by
  rintro i h ⟨a1,a2,⟨_,_,a3⟩,a4,a5⟩ b hb
  simp only[aG,bG,bH]at hb;rcases hb with rfl | rfl | rfl | rfl | rfl
  ·exact⟨_,a1,λv=>by simp⟩
  ·exact⟨_,a2,λv=>by simp⟩
  ·exact⟨_,a3,λv=>by simp⟩
  ·exact a4.obj
  ·exact a5.obj
 keep:=λi h h' ⟨a1,a2,⟨p,q,a3⟩,a4,a5⟩ k=>⟨k z (by simp) _ a1,k TI (by simp) _ a2,⟨p,q,k TO (by simp) _ a3⟩,a4.at λo e=>k i1 (by simp) o e,a5.at λo e=>k i2 (by simp) o e⟩
 item:=by
  rintro X hP hw hK hc i ah s σ H E I hf ⟨a1,a2,a3,a4,a5⟩ ⟨vs,ws,v,w',hv,XH,ev,ew⟩
  subst hP hw hK;obtain⟨ax,r1,k1⟩:=hv.get I;obtain⟨eK,r2,k2⟩:=XH.get I;obtain⟨x,ex,rx⟩:=r1.get ev;obtain⟨y,ey,ry⟩:=r2.get ew;have Z:Zp s.heap z TI TO i1 i2 l1 l2 .none i ax.toArray eK.toArray:=⟨a1,a2,a3,tV a4 k1,tV a5 k2,ord,o1,o2⟩;have hT:s.TypeIs (.ref z) "zip":=⟨_,a1,rfl⟩;unfold pyNext;refine ai (kR (f9 (name:=Str.ofString "__next__") hT gf (fH gf hT mY
   (Cy Z (by simpa using ex) (by simpa using ey) λh' Z' Nq UR kp=>ar ⟨_,rfl,?_⟩) (mX _))))
  refine wpAny_letOwnedTupleGo_zip Z'.hz λJs ZU sb=>?_
  have UX:∀b∈[z,TI,TO,i1,i2],b<s.heap.objs.size:=λb hb=>by
   simp only[aG,bG,bH]at hb;have h1:=aI a1;have h2:z<s.heap.objs.size:=h1;obtain⟨q1,q2,q3,q4⟩:=ord;rcases hb with rfl | rfl | rfl | rfl | rfl<;>lia
  have zT:z≠s.heap.objs.size:=bC (UX z (by simp))
  have UY:∀b o,b∉[z,TI,TO,i1,i2]->s.heap.get? b=some o->Js.get? b=some o:=λb o hb e=>by
   simp only[aG,bG,bH,not_or]at hb;exact sb.extBut _ _ hb.1 (kp b o hb.1 hb.2.2.1 hb.2.2.2.1 hb.2.2.2.2 e)
  have I1:Inv X ah σ H {s with heap:=Js,toks:=s.toks}:=Inv.turns I hf UY
  have hn:H s.heap.objs.size=none:=I.fresh;have La:=I.vy (H':=H) (aA _) hn;have pr:IsPair Js s.heap.objs.size x y:=sb.extBut _ _ (bU zT) Nq;have I2:=Inv.adopt (D:=s.heap.objs.size) (o:=.au [v,w']) I1 hn (by
    rcases La.2.2.2.1 with q | q
    ·exact I.sz
    ·exact q) La.2.1 La.2.2.2.2.1 La.2.2.2.2.2 ⟨(by show 2<=sizeLine;decide),[x,y],.cons rx (.cons ry .nil),⟨_,pr,rfl,⟨0,rfl⟩,rfl⟩⟩
  refine⟨.ref s.heap.objs.size,_,I2,rfl,⟨s.heap.objs.size,v,w',hn,rfl,rfl,λxc ws' h1 h2=>?_⟩,⟨ZU,sb.extBut _ _ (by first | exact nl (by lia) | exact ng (by lia)) Z'.hTI,?_,?_,?_⟩,λb hb=>?_⟩
  ·rw[<-sj.inj I hv h1,<-sj.inj I XH h2];exact⟨ev,ew⟩
  ·obtain⟨p,q,e⟩:=Z'.hTO;exact⟨p,q,sb.extBut _ _ (by first | exact nl (by lia) | exact ng (by lia)) e⟩
  ·have q:=vU (k':=i) Z'.s1 k1 λo e=>kp l1 o (by first | exact nl (by lia) | exact ng (by lia)) (by first | exact nl (by lia) | exact ng (by lia)) (by first | exact nl (by lia) | exact ng (by lia)) (by first | exact nl (by lia) | exact ng (by lia)) e
   exact q.at λo e=>sb.extBut _ _ (by first | exact nl (by lia) | exact ng (by lia)) e
  ·have q:=vU (k':=i) Z'.s2 k2 λo e=>kp l2 o (by first | exact nl (by lia) | exact ng (by lia)) (by first | exact nl (by lia) | exact ng (by lia)) (by first | exact nl (by lia) | exact ng (by lia)) (by first | exact nl (by lia) | exact ng (by lia)) e
   exact q.at λo e=>sb.extBut _ _ (by first | exact nl (by lia) | exact ng (by lia)) e
  ·rw[aN (bC (UX b hb))];exact(hf b hb).1
 done:=by
  rintro X hP hw hK hc i ah s σ H E I hf ⟨a1,a2,a3,a4,a5⟩ ⟨vs,ws,hv,XH,he⟩
  subst hP hw hK;obtain⟨ax,r1,k1⟩:=hv.get I;obtain⟨eK,r2,k2⟩:=XH.get I;have Z:Zp s.heap z TI TO i1 i2 l1 l2 .none i ax.toArray eK.toArray:=⟨a1,a2,a3,tV a4 k1,tV a5 k2,ord,o1,o2⟩;have hT:s.TypeIs (.ref z) "zip":=⟨_,a1,rfl⟩;have yp:ax.toArray[i]?=none\/eK.toArray[i]?=none:=by
   rcases he with q | q
   ·exact .inl (kE (by rw[cx,<-r1.length];exact q))
   ·exact .inr (kE (by rw[cx,<-r2.length];exact q))
  unfold pyNext;refine ai (kR (f9 (name:=Str.ofString "__next__") hT gf (fH gf hT mY (Hv (I.ok.hd hc) Z yp λh' e kp ⟨o,ho,hcl⟩=>?_) (mX _))))
  refine ai (kN (T:="StopIteration") (b:=true) ⟨o,ho,hcl⟩ u0 (ar ⟨rfl,?_⟩));exact Inv.turns (t':=s.toks) I hf λb o hb e=>by
   simp only[aG,bG,bH,not_or]at hb;exact kp b o hb.1 hb.2.2.1 hb.2.2.2.1 hb.2.2.2.2 e
 self:=λA i s Q E ⟨a1,_⟩ q=>zM a1 q
theorem HB{K:W.Frag}{F:Fz}{c1 c2:Bool}{l1 l2:Addr}{ps qs:List PV}{vs ws:List V}(k1:∀F',cz F.F F'->sj K F' c1 l1 vs)(k2:∀F',cz F.F F'->sj K F' c2 l2 ws)(b1:ay K F ps vs)(b2:ay K F qs ws):Walk K F (List.zipWith fW ps qs) (Itz K c1 c2 l1 l2):=by
 intro af ag F' ρ σ H R s i;have h1:=k1 H (s.s.trans R.sub);have h2:=k2 H (s.s.trans R.sub);refine⟨λp e=>?_,λe=>?_⟩
 ·rw[List.getElem?_zipWith]at e;cases z1:ps[i]? with
  | none=>rw[z1]at e;cases e
  | some p1 =>
   cases z2:qs[i]? with
   | none=>rw[z1,z2]at e;cases e
   | some p2 =>
    rw[z1,z2]at e;cases e;obtain⟨v,e1,Zi⟩:=b1.get z1;obtain⟨w,e2,c2'⟩:=b2.get z2;refine⟨⟨vs,ws,v,w,h1,h2,e1,e2⟩,λx H' ⟨T,v',w',hn,hx,hH,hall⟩=>?_⟩
    obtain⟨g1,g2⟩:=hall vs ws h1 h2;rw[e1]at g1;rw[e2]at g2;cases g1;cases g2;subst hx hH;obtain⟨R2,s2⟩:=R.laid (.au [v,w]) hn;exact⟨_,R2,s2,bO.mpr ⟨T,[v,w],rfl,iG.of aB,.cons (Zi.mono (s.trans s2)) (.cons (c2'.mono (s.trans s2)) .nil)⟩⟩
 ·refine⟨vs,ws,h1,h2,?_⟩;have:=ia.mp e;rw[List.length_zipWith,b1.length,b2.length]at this
  lia
section
variable {X:Cx} {af:Hp} {ag:Fz} {a b tg:Expr} {fa fb:Gx PV} {pos p:Pos}
def Qz(p q:PV):Option (List PV):=(oE p).bind λps=>(oE q).map λqs=>List.zipWith fW ps qs
def QA(fa fb:Gx PV):Gx (List PV):=bnd fa λp=>bnd fb λq=>jd (Qz p q)
theorem Vy(ht:Ce tg=true)(hg:Gl X "zip")(hm:X.mg "zip"=none)(ha:PE X a (tE X af ag fa))(hb:PE X b (tE X af ag fb))(hs:starEach [a,b] X.env=(false,eval a X.env)::starEach [b] X.env)(DF:starEach [b] X.env=[(false,eval b X.env)]) :
  PI X tg (.Call (.Name "zip" p) [a,b] [] pos) (tI X af ag (QA fa fb)):=by
 rintro ah s σ H R I ⟨F,st,Rp,h⟩
 have hA:=gY ha (gY hb qu DF) hs pos ah s σ H (λvs H'=>∃F' st' x y pa pb ps qs,vs=[x,y]/\Rep X.K af ag F' st' σ H'/\bj X.K F' pa x/\bj X.K F' pb y/\oE pa=some ps/\oE pb=some qs/\∀b UZ GA,Rep X.K af ag GA st' σ UZ->Gr F' GA->Walk X.K GA (List.zipWith fW ps qs) b->R b UZ) I
  ⟨F,st,Rp,h.bnd λp v F1 st1 H1 R1 g1 b1 h1=>⟨F1,st1,R1,h1.bnd λq w F2 dE H2 R2 g2 b2 h2=>by
   obtain⟨o,e,z⟩:=h2.jd;obtain⟨ps,e1,e⟩:=aO e;obtain⟨qs,e2,rfl⟩:=aQ e;exact⟨F2,dE,v,w,p,q,ps,qs,rfl,R2,b1.mono g2,b2,e1,e2,z⟩⟩⟩
 refine Call_ (ld_blt I hg hm boot_zip (hZ (thn hA λus s1 z9=>?_) hs (by rw[DF];rfl)))
 obtain⟨vs,H1,I1,r1,F1,st1,x,y,pa,pb,ps,qs,ev,R1,b1,b2,f3,f4,q⟩:=z9;subst ev;obtain⟨u1,u2,rfl,P1,Vo⟩:=BM r1;obtain⟨c1,l1,vs1,rfl,q1,Sz,k1⟩:=jK f3 b1;obtain⟨c2,l2,vs2,rfl,q2,XG,k2⟩:=jK f4 b2;cases P1;cases Vo;obtain⟨ax,v1,Ld⟩:=(k1 H1 R1.sub).get I1;obtain⟨eK,v2,SE⟩:=(k2 H1 R1.sub).get I1;have lt:∀{l:Addr} {xs:Array Value} {c:String},iq s1.heap l xs c->l<s1.heap.objs.size:=λh=>by
  rcases h with⟨_,⟨o,e,_⟩⟩ | ⟨_,⟨o,e,_⟩⟩
  ·exact aI e
  ·exact aI e
 have Le:=lt Ld;have M7:=lt SE;refine callType_new PySem.F.called_zip (by decide) (PySem.F.typeCall_zip_2 _ _) (PySem.F.newCall_zip_2 _ _) (λobj=>Fd obj _ _) PySem.F.entry_zip_new (yq l1 l2 ax.toArray eK.toArray (kl c1) (kl c2)) ⟨Ld,SE,λh1 h2 h3 h4 e1 e2 e3 e4=>?_⟩
 have z1:h1.objs.size=s1.heap.objs.size+1:=by rw[e1];exact eG ..
 have z2:h2.objs.size=s1.heap.objs.size+2:=by rw[e2,eG,z1]
 have z3:h3.objs.size=s1.heap.objs.size+3:=by rw[e3,eG,z2]
 have z4:h4.objs.size=s1.heap.objs.size+4:=by rw[e4,eG,z3]
 generalize e5:h4.push {cls:=.type "zip",data:=.fields #[.none,.bool false,.bool false,.ref h2.objs.size,.ref h3.objs.size]}=h5
 have p1:∀b o,s1.heap.get? b=some o->h1.get? b=some o:=λb o e=>by rw[e1];exact aJ _ e
 have p2:∀b o,h1.get? b=some o->h2.get? b=some o:=λb o e=>by rw[e2];exact aJ _ e
 have p3:∀b o,h2.get? b=some o->h3.get? b=some o:=λb o e=>by rw[e3];exact aJ _ e
 have p4:∀b o,h3.get? b=some o->h4.get? b=some o:=λb o e=>by rw[e4];exact aJ _ e
 have p5:∀b o,h4.get? b=some o->h5.get? b=some o:=λb o e=>by rw[<-e5];exact aJ _ e
 have g5:IsZip h5 h4.objs.size h2.objs.size h3.objs.size .none:=by rw[<-e5];exact bL _ rfl
 have g4:IsPair h5 h3.objs.size .none .none:=p5 _ _ (by rw[e4];exact bL _ rfl)
 have g3:IsPair h5 h2.objs.size (.ref s1.heap.objs.size) (.ref h1.objs.size):=p5 _ _ (p4 _ _ (by rw[e3];exact bL _ rfl))
 have g2:h5.get? h1.objs.size=some {cls:=.type (kl c2),data:=.fields #[.ref l2,.int 0 0]}:=p5 _ _ (p4 _ _ (p3 _ _ (by rw[e2];exact bL _ rfl)))
 have g1:h5.get? s1.heap.objs.size=some {cls:=.type (kl c1),data:=.fields #[.ref l1,.int 0 0]}:=p5 _ _ (p4 _ _ (p3 _ _ (p2 _ _ (by rw[e1];exact bL _ rfl))))
 have itc:∀{c:Bool} {it l:Addr},h5.get? it=some {cls:=.type (kl c),data:=.fields #[.ref l,.int 0 0]}->E3 h5 c it l 0:=λ{c it l} e=>by
  cases c with
  | true=>exact(show h5.IsListIter it l 0 from⟨_,e,rfl,rfl⟩)
  | false=>exact(show h5.IsTupleIter it l 0 from⟨_,e,rfl,rfl⟩)
 have I2:Inv X ah σ H1 {s1 with heap:=h5,toks:=s1.toks}:=I1.kept λb o e=>p5 _ _ (p4 _ _ (p3 _ _ (p2 _ _ (p1 _ _ e))))
 have lL:∀b,s1.heap.objs.size<=b->H1 b=none:=λb hb=>I1.hok.fresh hb
 refine⟨⟨_,g5,rfl⟩,?_⟩;show wpAny _ _ (pyIter (.ref h4.objs.size)) _ _ {s1 with heap:=h5,toks:=s1.toks}
 refine zM g5 ?_;cases tg with
 | Tuple elts x1 qt =>
  refine⟨h4.objs.size,[h4.objs.size,h2.objs.size,h3.objs.size,s1.heap.objs.size,h1.objs.size],_,_,H1,rfl,I2,HA (TI:=h2.objs.size) (TO:=h3.objs.size) (i1:=s1.heap.objs.size) (i2:=h1.objs.size) (l1:=l1) (l2:=l2) (c1:=c1) (c2:=c2) ⟨by lia,by lia,by lia,by lia⟩ Le M7,⟨g5,g3,⟨_,_,g4⟩,itc g1,itc g2⟩,λb hb=>?_,q _ H1 F1 R1 (Gr.refl _) (HB k1 k2 Sz XG)⟩
  simp only[aG,bG,bH]at hb;have U0:s1.heap.objs.size<=b:=by rcases hb with rfl | rfl | rfl | rfl | rfl<;>lia
  have fo:=I1.vy (H':=H1) U0 (lL b U0);exact fo
 | _=>cases ht
end
end L2.U
namespace L2
open PySem PySem.Spec PyProof.Rows
section
variable {prog:Program} {w:World} {A:Around} {E:Value->Shared->Prop} {s:Shared} {K:W.Frag} {x dx C f:Addr} {mA:Str->Option Value} {name:Str} {v:Value}
theorem HC{pl:Sem Bool}{Q:Value×List Value->Shared->Prop}(X:K.In s.heap)(I:Ar s.heap x dx C mA)(hg:W.plainGet K C name=true)
    (hf:W.findIn K (.ref C) name=some (some (.ref f))) (ht:W.isFn K (.ref f)=true) (hv:mA name=none) (h:Q (.ref f,[.ref x]) s) :
    wpAny (model prog w) A (getMethod (.ref x) name pl) Q E s:=by
  obtain⟨od,J,hl⟩:=I.kY;exact W.method_fn X J (W.plainGet_of hg).1 (W.plainGet_of hg).2 hf (iF.mp ht) (by show(W.lookIn name od).map (·.isSome)=some false;rw[hl,hv];rfl) h
end
section
variable {X:Cx} {ah:List (Addr×Obj)} {σ:St} {H:Hp} {s:Shared} {a C dx:Addr} {fs:List (Str×V)} {f:Str} {v:V} {A:Around} {E:Value->Shared->Prop}
theorem AV{m:Str}{g:Addr}{pl:Sem Bool}{Q:Value×List Value->Shared->Prop}(I:Inv X ah σ H s)(e:H a=some (.ins C dx fs))(c:sy X.K C)(k:Fg X.K C m g)(l:fs.lookup m=none)
    (h:Q (.ref g,[.ref a]) s):wpAny (model X.prog X.w) A (getMethod (.ref a) m pl) Q E s:=by
  obtain⟨mA,O,r,_,_,_⟩:=vA I.hok e;have hn:mA m=none:=oh.none_of (by rw[<-l];exact r m)
  exact HC I.oj O (c.get m) k.at_ k.fn hn h
end
section
variable {X:Cx} {o e value:Expr} {f:Str} {pos om qt:Pos} {ta tv:TE}
theorem nX{pl:Sem Bool}{m:Str}{eR:Pos}{args:List Expr}{ah:List (Addr×Obj)}{s:Shared}{σ:St}{H:Hp}{Q:Value->Shared->Prop}{te:TE}(he:PE X e te)(I:Inv X ah σ H s)
    (h:te σ H λx H1=>∃a C dx fs g,x=.ref a/\H1 a=some (.ins C dx fs)/\sy X.K C/\Fg X.K C m g/\fs.lookup m=none /\
      ∀s1,Inv X ah σ H1 s1->wpAny (model X.prog X.w) X.A (callWith pos (.ref g) [.ref a] (backTo pos (starEach args X.env)) (backToKw pos (keywordEach [] X.env))) Q X.xe s1)
    (ht:eval (.Call (.Attribute e m eR) args [] pos) X.env=(do
      let ov <-eval e X.env
      standAt eR.atName
      let (f,first) <-holding [ov] (getMethod ov m pl)
      callWith pos f first (backTo pos (starEach args X.env)) (backToKw pos (keywordEach [] X.env)))) :
    wpAny (model X.prog X.w) X.A (eval (.Call (.Attribute e m eR) args [] pos) X.env) Q X.xe s:=by
  refine W.methodCall_KW (pl:=pl) (thn (he ah s σ H _ I h) λu s1 ⟨x,H1,I1,rx,a,C,dx,fs,g,ex,ea,c,k,l,q⟩=>?_) ht
  subst ex;obtain rfl:u=Value.ref a:=rx;exact AV I1 ea c k l (q s1 I1)
end
section
def ZV(X:Cx)(op:Operator)(rd:V->V->Hp->VK->Prop):Prop :=
  ∀(ah:List (Addr×Obj)) (s:Shared) (σ:St) (H:Hp) (x y:V) (u v:Value) (Q:VK),Inv X ah σ H s->RelV x u->RelV y v->rd x y H Q->wpAny (model X.prog X.w) X.A (inplaceOp op u v) (EP X ah σ Q) X.xe s
end
section
def LC(K:W.Frag)(ta tv:TE)(rd:V->V->Hp->VK->Prop)(f:Str):TS:=λD σ H=>ta σ H λx H1=>∃a C dx fs v,x=.ref a/\H1 a=some (.ins C dx fs)/\sy K C/\gG K C f/\fs.lookup f=some v /\
  tv σ H1 λy H2=>rd v y H2 λz H3=>∃VA MM,H3 a=some (.ins C VA MM)/\MM.length<1000/\D.nx σ (cU H3 a (.ins C VA (gU f z MM)))
end
section
variable {X:Cx} {o e value:Expr} {f:Str} {pos om qt:Pos} {ta tv:TE}
theorem El{op:Operator}{rd:V->V->Hp->VK->Prop}(ha:PE X o ta)(hv:PE X value tv)(hop:ZV X op rd):PS X (.AugAssign (.Attribute o f qt) op value pos) (LC X.K ta tv rd f):=by
  intro ah s σ H D I h;refine wpAny_AugAssign_AttributeAny (thn (ha ah s σ H _ I h) λov s1 ⟨x,H1,I1,rx,a,C,dx,fs,v,ex,ea,c,n,l,q⟩=>?_)
  subst ex;obtain rfl:ov=Value.ref a:=rx;refine qp I1 ea c n l λu s2 I2 ru=>thn (hv ah s2 σ H1 _ I2 q) λw3 s3 ⟨y,H2,I3,ry,q3⟩=>thn (hop ah s3 σ H2 v y u w3 _ I3 ru ry q3) λw4 s4 ⟨z,H3,I4,rz,VA,MM,ea',l',q4⟩=>?_
  exact qr I4 ea' c n l' rz λs5 I5=>⟨σ,_,I5,q4⟩
end
section
variable {X:Cx} {CX:Dq} {k:Nat} {f C:Addr} {fd:FuncData} {ps:List Str} {sp:Sp} {jA:List V} {ds:List Value} {E:XK} {x m:Str} {p pos eR:Pos} {e o:Expr} {es:List Expr} {ta:TE} {t:TA}
theorem HE(M:Mk X.K C f)(F:FnOk X.prog X.w X.K X.mg X.base CX k f fd ps sp)(hr:c7 (k+1) X.A)(hg:Gl X x)(hm:X.mg x=some (.ref C))(hb:cM X.K fd ps ds)(hd:Vals jA ds)(hx:vB CX X E)
    (Aj:(x==("__debug__":Str))=false:=by decide):PE X (.Call (.Name x p) [] [] pos) (BN C sp jA E OS):=by
  intro ah s σ H Q I h;refine jq (ld_glob I hg hm ?_ Aj);exact W.callWith_K0 I.oj M.kp (xE (us:=[]) M F hr hb hd hx I .nil h)
end
section
theorem Vals.dropLast{xs:List V}{us:List Value}(h:Vals xs us):Vals xs.dropLast us.dropLast:=by
  induction h with
  | nil=>exact .nil
  | cons r t ih =>
    cases t with
    | nil=>exact .nil
    | cons q t'=>exact .cons r ih
end
section
theorem AW{α:Type}(l:List α):l.eraseIdx (l.length-1)=l.dropLast:=by
  induction l with
  | nil=>rfl
  | cons a r ih =>
    cases r with
    | nil=>rfl
    | cons b r =>
      have e:(a::b::r).length-1=((b::r).length-1)+1:=by
        have h1:(a::b::r).length=r.length+2:=rfl;have h2:(b::r).length=r.length+1:=rfl
        lia
      rw[e,List.eraseIdx_cons_succ,ih]
      all_goals rfl
end
section
variable {X:Cx}
def Nr:V->List V->Hp->VK->Prop:=λx vs H Q=>∃l xs y,x=.ref l/\vs=[]/\H l=some (.lst xs)/\xs[xs.length-1]?=some y/\Q y (cU H l (.lst xs.dropLast))
end
section
variable {X:Cx}
theorem LD:YS X "list.pop" Nr:=by
  intro ah s σ H x vs v us Q I rx rv h;obtain⟨l,xs,y,rfl,rfl,hH,hy,q⟩:=h;cases rx;have hus:=rv.zero;subst hus;obtain⟨z,ax,n,r,hl,e⟩:=I.dN hH;obtain⟨u,hu,ru⟩:=r.get hy;have hy':ax.toArray[ax.toArray.size-1]?=some u:=by
    show ax.toArray[ax.length-1]?=some u;rw[<-uJ,<-hl];exact hu
  refine gh F.slot_list_pop ⟨_,e,rfl⟩ F.entry_list_pop (F.args_list_pop_1 _) (MeetsSeq.list_pop_last l ax.toArray n u hy' (by rw[cx];lia)) ⟨e,?_⟩
  refine⟨y,_,I.O5 (its':=ax.dropLast) hH e ?_ r.dropLast ?_,ru,q⟩
  · show ax.toArray.eraseIdxIfInBounds (ax.toArray.size-1)=ax.dropLast.toArray
    rw[cx,List.eraseIdxIfInBounds_toArray,AW]
  · rw[List.length_dropLast]
    lia
end
end L2
namespace L2.U
open PySem PySem.Spec PyProof.Rows
section
variable {X:Cx} {af:Hp} {ag:Fz} {e o:Expr} {es:List Expr} {ts:Gx (List PV)} {fo:Gx PV} {pos p eR:Pos} {k n:Nat} {f:Addr} {fd:FuncData} {ps:List Str} {x m:Str} {g:j7} {ds:List PV} {jA:List V} {p9:List Value}
def o8{CX:Dq}{sp:Sp}{E:XK}{ah:List (Addr×Obj)}{σ:St}{H:Hp}{s:Shared}{Q:VK}{us:List Value}{vs:List V}(F:FnOk X.prog X.w X.K X.mg X.base CX k f fd ps sp)(hr:c7 k X.A)(hb:cM X.K fd ps p9)(hd:Vals jA p9)(hx:∀e s',CX X.stack H s E e s'->X.xe e s')
  (I:Inv X ah σ H s) (r:Vals vs us) (h:sp (vs++jA) H Q E):wpAny (model X.prog X.w) X.A (call (.ref f) us) (EP X ah σ Q) X.xe s:=by
 have r2:Vals (vs++jA) (us++p9):=r.append hd;have Sv:=hb s us I.oj (by rw[<-r2.length];exact F.len _ _ _ _ h)
 refine wpAny_call (pX (F.run X.A X.stack s H ⟨us,[]⟩ (us++p9) (vs++jA) Q E hr I.OU Sv r2 h) λr s' hq=>?_)
 cases r with
 | error e=>exact hx e s' hq
 | ok fl =>
  cases fl with
  | ret u=>exact I.after hq
  | next=>exact False.elim hq
  | brk=>exact False.elim hq
  | cont=>exact False.elim hq
def VB(G:FnOk X.prog X.w X.K X.mg X.base (ik X.prog X.w) k f fd ps (tY X.K n g))(hr:c7 k X.A)(hb:cM X.K fd ps p9)(hd:Vals jA p9)(bd:∀F,ay X.K F ds jA):AM X f (λas=>ig n g (as++ds)):=by
 rintro af H ag F st σ ah s Q as us vs I R b r ⟨q,e1,e2⟩
 obtain⟨hl,e1⟩:=bS e1;obtain⟨⟨rs,h'⟩,e3,e4⟩:=aQ e1;subst e4;obtain⟨C,full⟩:=R.c.enter;have b2:=b.append (bd F);cases rs with
 | ok p'=>exact o8 G hr hb hd (λe s' hx=>tK ah σ H s e s' I hx) I r ⟨_,F,st.h,as++ds,_,h',C,full,b2,hl,e3,λv F' H' D b'=>e2 v H' F' ⟨R.c.leave D,R.l.mono D.base⟩ D.base b'⟩
 | ex m c=>exact thn (o8 (Q:=λ_ _=>False) G hr hb hd (λe s' hx=>e2 σ ah H s e s' I hx) I r ⟨_,F,st.h,as++ds,_,h',C,full,b2,hl,e3,λcls F' H' D hc=>⟨hc,F',⟨R.c.leave D,R.l.mono D.base⟩,D.base⟩⟩) (by rintro v s3 ⟨_,_,_,_,z⟩;exact z.elim)
def VC(G:FnOk X.prog X.w X.K X.mg X.base (ik X.prog X.w) k f fd ps (tY X.K n g))(hr:c7 k X.A)(hb:cM X.K fd ps p9)(hd:Vals jA p9)(bd:∀F,ay X.K F ds jA):AM X f (λas=>jM n g (as++ds)):=by
 rintro af H ag F st σ ah s Q as us vs I R b r ⟨q,e1,e2⟩
 obtain⟨⟨hl,hn⟩,e1⟩:=bS e1;obtain⟨⟨rs,h'⟩,e3,e4⟩:=aO e1;have full:∀b o,H b=some o->H b=some o\/∃n:Nat,(Fz.mk F.F []).μ[n]?=some b:=by grind
 have b3:=tZ R hn (b.append (bd F)) [];cases rs with
 | ok p' =>
  obtain⟨p2,e5,e6⟩:=aQ e4;subst e6;refine o8 G hr hb hd (λe s' hx=>tK ah σ H s e s' I hx) I r ⟨H,⟨F.F,[]⟩,[],as++ds,_,h',R.c.pure,full,b3,hl,e3,λv F' H' D b'=>?_⟩
  obtain⟨R3,g3⟩:=R.back (cz.refl _) D;exact e2 v H' _ R3 g3 (ye F.μ D e5 b')
 | ex m c =>
  cases e4;refine thn (o8 (Q:=λ_ _=>False) G hr hb hd (λe s' hx=>e2 σ ah H s e s' I hx) I r ⟨H,⟨F.F,[]⟩,[],as++ds,_,h',R.c.pure,full,b3,hl,e3,λcls F' H' D hc=>?_⟩) (by rintro v s3 ⟨_,_,_,_,z⟩;exact z.elim)
  obtain⟨R3,g3⟩:=R.back (cz.refl _) D;exact⟨hc,_,R3,g3⟩
noncomputable def LF(C:Str)(n:Nat)(g:j7)(as:List PV):Gx PV:=λst=>if as.length+1=n then(g (.ref st.h.length::as) (st.h++[⟨.ins C [],[]⟩])).bind λr=>match r with
 | (.ok .aL,h')=>some (.ok (.ref st.h.length),⟨st.ρ,h'⟩)
 | _=>none else none
def VD(C:Str)(n:Nat)(g:j7)(ts:Gx (List PV)):Gx PV:=bnd ts (LF C n g)
variable {C:Str} {Ca:Addr}
def CD(hC:ClsAt X.K C (.ref Ca))(c:sy X.K Ca)(h:tE X af ag (VD C n g ts) σ H Q):BN Ca (tY X.K n g) [] E0 (tA X af ag ts) σ H Q:=by
 obtain⟨F,st,R,h⟩:=h;refine⟨F,st,R,h.bnd λas vs F1 st1 H1 R1 g1 b1 h1 y dx hy hdx fx=>?_⟩
 obtain⟨q,e1,e2⟩:=h1;obtain⟨hl,e1⟩:=bS e1;obtain⟨r,e3,e4⟩:=aO e1;have hyd:cU H1 dx (.own y) y=none:=by rw[aN fx.symm];exact hy
 have up:cz H1 (cU H1 dx (.own y)):=fT hdx;have R2:Rep X.K af ag F1 st1 σ (cU H1 dx (.own y)):=R1.after (F':=F1) up (cz.refl _) rfl (R1.sub.trans up) λ_ _ z=>.inl z
 obtain⟨C2,g2,hm⟩:=R2.c.alloc (c:=⟨.ins C [],[]⟩) (o:=.ins Ca dx []) (vs:=[]) hyd ⟨Ca,dx,[],hC,c,(λ_ z=>nomatch z),aB,rfl,rfl⟩ .nil
 obtain⟨C3,full⟩:=C2.enter;have b2:ay X.K ⟨F1.F,F1.μ++[y]⟩ (.ref st1.h.length::as) (.ref y::vs):=.cons (dk.mpr ⟨y,hm,rfl⟩) (b1.mono g2)
 match r,e4 with
 | (.ok .aL,h'),e4 =>
  cases e4;exact⟨_,_,_,.ref st1.h.length::as,_,h',C3,full,by rw[c6];exact b2,by grind,e3,λv F' H' D b'=>⟨cW.mp b',e2 _ H' F' ⟨C2.leave D,(R2.l.mono g2).mono D.base⟩ (g2.trans D.base) (dk.mpr ⟨y,D.base.m _ _ hm,rfl⟩)⟩⟩
 | (.ok (.bl _),_),e4=>cases e4
 | (.ok (.int _),_),e4=>cases e4
 | (.ok (.str _),_),e4=>cases e4
 | (.ok (.ref _),_),e4=>cases e4
 | (.ok (.fn _),_),e4=>cases e4
 | (.ok (.nd _ _),_),e4=>cases e4
 | (.ex _ _,_),e4=>cases e4
end
def HF{X:Cx}{af:Hp}{ag:Fz}{C:Str}{Ca:Addr}{n:Nat}{g:j7}(hC:ClsAt X.K C (.ref Ca))(c:sy X.K Ca)(h:tE X af ag (VD C n g (cD [])) σ H Q):BN Ca (tY X.K n g) [] E0 OS σ H Q:=by
 have:=CD hC c h;obtain⟨F,st,R,h1⟩:=this;exact Tx.cD h1 [] H F R (Gr.refl _) .nil
noncomputable def VE(o:Expr)(env:Env):Sem Bool:=do
 let b <-importBound o env
 pure (b.getD true)
theorem uc{o:Expr}{m:Str}{eR cp:Pos}{args:List Expr}{env:Env}(hb:attributeBase o m env (eval o env)=eval o env)
  (hf:((backTo cp (starEach args env)).all (λx=>!x.1)&&(backToKw cp (keywordEach [] env)).all (λx=>x.1.isSome)&&decide (args.length+([]:List Keyword).length+(if([]:List Keyword).isEmpty then 0 else 1)<30))=true)
  (hl:(eR.endLine==cp.line)=true):eval (.Call (.Attribute o m eR) args [] cp) env=(do
   let ov <-eval o env
   standAt eR.atName
   let (f,first) <-holding [ov] (getMethod ov m (VE o env))
   callWith cp f first (backTo cp (starEach args env)) (backToKw cp (keywordEach [] env))):=by
 rw[arm_eval_Call,hb];have e1:methodCallForm (args.length+([]:List Keyword).length) (backTo cp (starEach args env)) (backToKw cp (keywordEach [] env))=true:=by
  unfold methodCallForm;rw[aH]at hf ⊢;exact⟨hf.1,hf.2⟩
 have e2:methodCallPos true o env eR cp=pure cp:=by
  unfold methodCallPos;rw[hl];rfl
 unfold methodCall;simp only[e1,e2];unfold calleeOf;simp only[if_pos];rfl
theorem fX{α β:Type} [BEq α] [LawfulBEq α] {k:α} {v:β}:∀{l:List (α×β)},l.lookup k=some v->(k,v)∈l
 | [],h=>by cases h
 | (a,b)::l,h=>by
  rw[dv]at h;cases z:k==a with
  | true =>
   rw[z]at h;cases h;rw[aV z];exact du
  | false =>
   rw[z]at h;exact cG _ (fX h)
def LG(h:List aj)(p:PV)(m:Str):Option Str:=match cQ h p with
 | some (.ins C ns,_)=>if ns.contains m=true then none else some C
 | _=>none
abbrev VF:=List ((Str×Str)×(Str×Nat))
noncomputable def ud(mt:VF)(m:Str):List (Str×(Str×Nat)):=(mt.filter λd=>d.1.2==m).map λd=>(d.1.1,d.2)
def Em(L:List (Str×(Str×Nat)))(m:Str)(p:PV)(h:List aj):Option (Str×Nat):=(LG h p m).bind λC=>L.lookup C
theorem ue{mt:VF}{m C:Str}{y:Str×Nat}(h:(ud mt m).lookup C=some y):((C,m),y)∈mt:=by
 obtain⟨d,hd,e⟩:=bZ.mp (fX h);obtain⟨h1,h2⟩:=zY.mp hd;cases e;rw[<-aV h2];exact h1
def yu(L:List (Str×(Str×Nat)))(call:Str->j7)(m:Str)(fo:Gx PV)(ts:Gx (List PV)):Gx PV :=
 bnd fo λp=>bnd (hp (Em L m p)) λq=>bnd ts λas=>ig q.2 (call q.1) (p::as)
def wa(X:Cx)(mt:VF)(call:Str->j7):Prop:=∀C m y,((C,m),y)∈mt->∃j f fd ps Ca,ClsAt X.K C (.ref Ca)/\Fg X.K Ca m f/\FnOk X.prog X.w X.K X.mg X.base (ik X.prog X.w) j f fd ps (tY X.K y.2 (call y.1))/\c7 j X.A/\cM X.K fd ps []
section
variable {X:Cx} {af:Hp} {ag:Fz} {e o:Expr} {es:List Expr} {ts:Gx (List PV)} {fo:Gx PV} {pos p eR cp:Pos} {m:Str} {mt:VF} {call:Str->j7}
def QB(hM:wa X mt call)(ho:PE X o (tE X af ag fo))(ha:PA X (e::es) (tA X af ag ts))(hb:attributeBase o m X.env (eval o X.env)=eval o X.env)
  (hf:((backTo cp (starEach (e::es) X.env)).all (λx=>!x.1)&&(backToKw cp (keywordEach [] X.env)).all (λx=>x.1.isSome)&&decide ((e::es).length+([]:List Keyword).length+(if([]:List Keyword).isEmpty then 0 else 1)<30))=true)
  (hl:(eR.endLine==cp.line)=true) (sg:starEach (e::es) X.env=(false,eval e X.env)::starEach es X.env) (qd:(backTo cp (starEach es X.env)).any (·.1)=false) :
  PE X (.Call (.Attribute o m eR) (e::es) [] cp) (tE X af ag (yu (ud mt m) call m fo ts)):=by
 rintro ah s σ H Q I ⟨F,st,R,h⟩
 refine nX ho I ⟨F,st,R,h.bnd λq v F1 st1 H1 R1 g1 b1 h1=>?_⟩ (uc hb hf hl)
 obtain⟨⟨key,n⟩,e1,z⟩:=At.hp (At.bnd h1);obtain⟨C,e2,e4⟩:=aO e1;unfold LG at e2;split at e2
 ·rename_i D ns ps hd;split at e2
  ·cases e2
  ·rename_i Gn;cases e2;obtain⟨a,vs,rfl,⟨Ca,dx,fs,k1,k2,k3,k4,k5,k6⟩,k7⟩:=R1.at hd b1;obtain⟨j,f,fd,vG,Cb,m1,m2,m3,m4,m5⟩:=hM _ _ _ (ue e4);have eC:Ca=Cb:=by
    have:=k1.symm.trans m1;cases this;rfl
   subst eC;refine⟨a,Ca,dx,fs,f,rfl,k4,k2,m2,?_,λs1 I1=>?_⟩
   ·cases hl:fs.lookup m with
    | none=>rfl
    | some w =>
     exact absurd (by rw[<-k5];simpa using uR (f:=λy:Str×V=>y.1) (fX hl)) Gn
   ·have z:Tx X af ag (bj X.K) F1 st1 (bnd ts λas=>ig n (call key) (q::as)) σ Q:=z
    refine W.callWith_K (first:=[.ref a]) (h₀:=X.base) I1.ok.mod.kin m2.kp (thn (ha cp ah s1 σ H1 (λvs H2=>∃F2 dE as,Rep X.K af ag F2 dE σ H2/\ay X.K F2 as vs/\Gr F1 F2/\Tx X af ag (bj X.K) F2 dE (ig n (call key) (q::as)) σ Q) I1
     ⟨F1,st1,R1,z.bnd λas vs F2 dE H2 R2 g2 b2 h2=>⟨F2,dE,as,R2,b2,g2,h2⟩⟩) (by
      rintro us s2 ⟨ws,H2,I2,r,F2,dE,as,R2,b2,g2,z⟩
      exact⟨I2.oj,Qb m3 m4 m5 _ _ _ _ _ _ _ _ _ (q::as) (.ref a::us) (.ref a::ws) I2 R2 (.cons (b1.mono g2) b2) (.cons rfl r) z⟩)) sg qd
 ·cases e2
def LH(hM:wa X mt call)(ho:PE X o (tE X af ag fo))(hb:attributeBase o m X.env (eval o X.env)=eval o X.env)(hl:(eR.endLine==cp.line)=true) :
  PE X (.Call (.Attribute o m eR) [] [] cp) (tE X af ag (yu (ud mt m) call m fo (cD []))):=by
 rintro ah s σ H Q I ⟨F,st,R,h⟩
 refine nX ho I ⟨F,st,R,h.bnd λq v F1 st1 H1 R1 g1 b1 h1=>?_⟩ (uc hb rfl hl)
 obtain⟨⟨key,n⟩,e1,z⟩:=At.hp (At.bnd h1);obtain⟨C,e2,e4⟩:=aO e1;unfold LG at e2;split at e2
 ·rename_i D ns ps hd;split at e2
  ·cases e2
  ·rename_i Gn;cases e2;obtain⟨a,vs,rfl,⟨Ca,dx,fs,k1,k2,k3,k4,k5,k6⟩,k7⟩:=R1.at hd b1;obtain⟨j,f,fd,vG,Cb,m1,m2,m3,m4,m5⟩:=hM _ _ _ (ue e4);have eC:Ca=Cb:=by
    have:=k1.symm.trans m1;cases this;rfl
   subst eC;refine⟨a,Ca,dx,fs,f,rfl,k4,k2,m2,?_,λs1 I1=>?_⟩
   ·cases hl:fs.lookup m with
    | none=>rfl
    | some w =>
     exact absurd (by rw[<-k5];simpa using uR (f:=λy:Str×V=>y.1) (fX hl)) Gn
   ·have z:Tx X af ag (bj X.K) F1 st1 (ig n (call key) [q]) σ Q:=At.cD (At.bnd z);exact W.callWith_K0 (first:=[.ref a]) I1.oj m2.kp (Qb m3 m4 m5 _ _ _ _ _ _ _ _ _ [q] [.ref a] [.ref a] I1 R1 (.cons b1 .nil) (.cons rfl .nil) z)
 ·cases e2
end
def wb(f:Str)(p:PV)(h:List aj):Option (Str×PV):=match cQ h p with
 | some (.ins C ns,ps)=>(yg f ns ps).map λq=>(C,q)
 | _=>none
def qU(h:List aj)(p:PV)(C:Str):Bool:=match jf h p with
 | some (_,⟨.ins D _,_⟩)=>C==D
 | _=>false
def HG(cls flds:List Str)(f:Str)(g:G2)(fo fv:Gx PV):Gx dJ:=bnd fo λp=>bnd (hp (wb f p)) λx=>bnd fv λy=>bnd (hp λh=>g h x.2 y) λz=>stp λst=>if qU st.h p x.1=true then ek cls flds f p z st else none
section
variable {X:Cx} {af:Hp} {ag:Fz} {e o:Expr} {fo fv:Gx PV} {pos qt:Pos} {f:Str} {g:G2} {op:Operator}
def QC{cls flds:List Str}(hc:yh X.K cls flds)(ho:PE X o (tE X af ag fo))(he:PE X e (tE X af ag fv))(hop:oY X (inplaceOp op) g):PS X (.AugAssign (.Attribute o f qt) op e pos) (tS X af ag (HG cls flds f g fo fv)) :=
 (El (rd:=rT X.K g) ho he (λah s σ H x y u v Q I r1 r2 t=>hop ah s σ H x y u v Q I r1 r2 t)).imp λD σ H ⟨F,st,R,h⟩=>⟨F,st,R,h.bnd λpo v F1 st1 H1 R1 g1 b1 h1=>by
  obtain⟨r,e1,e2⟩:=At.bnd h1;obtain⟨q,e3,e4⟩:=aQ e1;subst e4;have h2:Sa X af ag F1 D st1 (bnd fv λy=>bnd (hp λh=>g h q.2 y) λz=>stp λst=>if qU st.h po q.1=true then ek cls flds f po z st else none):=e2
  unfold wb at e3;split at e3
  ·rename_i C ns ps hd;obtain⟨q',ZW,rfl⟩:=aQ e3;obtain⟨a,vs,rfl,⟨Ca,dx,fs,k2,k3,k4,k5,k6,k7⟩,k8⟩:=R1.at hd b1;subst k6 k7;obtain⟨hm,w,hl,bw⟩:=qO ZW k8;refine⟨a,Ca,dx,fs,w,rfl,k5,k3,k4 f hm,hl,F1,st1,R1,h2.bnd λpy y F2 dE H2 R2 g2 b2 h3=>?_⟩
   obtain⟨r,e5,e6⟩:=At.bnd h3;obtain⟨pz,e7,e8⟩:=aQ e5;subst e8;have h4:Sa X af ag F2 D dE (stp λst=>if qU st.h po C=true then ek cls flds f po pz st else none):=e6
   refine⟨af,ag,F2,dE,σ,q',py,pz,e7,R2,bw.mono g2,b2,λz H3 F3 R3 g3 b3=>?_⟩
   obtain⟨st',e9,z9⟩:=h4.stp;obtain⟨hC,e9⟩:=bS e9;obtain⟨a',Cb,VA,MM,k1,m1,m2,m3,m4,m5,m6⟩:=eA hc R3 b1 (g2.trans g3) b3 e9;cases k1;have eCC:Ca=Cb:=by
    unfold qU at hC;split at hC
    ·rename_i h;cases aV hC;cases k2.symm.trans (m6 _ _ _ _ h rfl);rfl
    ·cases hC
   subst eCC;exact⟨VA,MM,m1,Nat.le_add_left_of_le m4,z9 F3 σ _ m5 g3⟩
  ·cases e3⟩
end
noncomputable def qV:MG:=λc as=>match c.k,as with
 | .lst,[]=>(c.ps[c.ps.length-1]?).map λp=>(⟨.lst,c.ps.dropLast⟩,p)
 | _,_=>none
section
variable {X:Cx} {af:Hp} {ag:Fz} {e o:Expr} {fo fv:Gx PV} {eR iM:Pos}
theorem ay.dropLast{K:W.Frag}{F:Fz}{ps:List PV}{vs:List V}(h:ay K F ps vs):ay K F ps.dropLast vs.dropLast:=by
 rw[List.dropLast_eq_take,List.dropLast_eq_take,h.length];exact h.take _
def HH:GQ X.K Nr qV:=by
 intro af H ag F st σ n c c' a as ws q Q R hc hl ha hg hb k;unfold qV at hg;split at hg
 ·rename_i hk;obtain⟨p,e1,e2⟩:=aQ hg;cases e2;obtain⟨_,vs,h2,h3⟩:=R.c.cell n c a hc ha hl;rw[hk]at h2;obtain⟨v,e3,b3⟩:=h3.get e1;exact⟨a,vs,v,rfl,hb.cA,h2,by rw[<-h3.length];exact e3,k v F _ (R.put hc hl ha aB h3.dropLast) (Gr.refl _) b3⟩
 ·cases hg
def QD(ho:PE X o (tE X af ag fo))(lR:attributeBase o "pop" X.env (eval o X.env)=eval o X.env)(lS:(eR.endLine==iM.line)=true) :
  PE X (.Call (.Attribute o "pop" eR) [] [] iM) (tE X af ag (Jt "list" (fu qV) fo (cD []))) :=
 (O4 zt PySem.F.slot_list_pop PySem.F.type_list_pop LD ho lR lS).imp λ_ _ _ h=>Li (Hg HH) h
end
noncomputable def En(f:Gx dJ):Gx dJ:=λst=>match f st with
 | some (.ok x,st')=>some (.ok x,st')
 | _=>none
section
variable {X:Cx} {af:Hp} {ag:Fz} {body:List Stmt} {hd:ExceptHandler} {hs:List ExceptHandler} {pos:Pos} {f:Gx dJ}
def VG(hb:PSs X.Sq body (tS X.Sq af ag f)):PS X (.Try body (hd::hs) [] [] pos) (tS X af ag (En f)):=by
 rintro ah s σ H D I ⟨F,st,R,r,e1,e2⟩
 unfold En at e1;split at e1
 ·rename_i x st' hf;cases e1;refine wpAny_Try_except (jz (hb ah s σ H D (I.sG _) ⟨F,st,R,_,hf,?_⟩) (λfl s1 h1=>?_) λ_ _ z=>False.elim z)
  ·cases x<;>exact e2
  ·have h1:=h1.jE;cases fl with
   | next=>exact pT h1
   | brk=>exact h1
   | cont=>exact h1
   | ret u=>exact h1
 ·cases e1
def qW(m n:Nat)(g:j7)(ds as:List PV):Gx PV:=λst=>if((m==0)&&(st.h.isEmpty || ao as))=true then jM n g (as++ds) st else ig n g (as++ds) st
variable {k n:Nat} {fa:Addr} {fd:FuncData} {ps:List Str} {g:j7} {ds:List PV} {jA:List V} {p9:List Value}
def VH{m:Nat}(G:FnOk X.prog X.w X.K X.mg X.base (ik X.prog X.w) k fa fd ps (tY X.K n g))(hr:c7 k X.A)(hb:cM X.K fd ps p9)(hd:Vals jA p9)(bd:∀F,ay X.K F ds jA):AM X fa (qW m n g ds):=by
 rintro af H ag F st σ ah s Q as us vs I R b r ⟨q,e1,e2⟩
 unfold qW at e1;split at e1
 ·exact VC G hr hb hd bd af H ag F st σ ah s Q as us vs I R b r ⟨q,e1,e2⟩
 ·exact VB G hr hb hd bd af H ag F st σ ah s Q as us vs I R b r ⟨q,e1,e2⟩
end
section
variable {X:Cx} {af:Hp} {ag:Fz} {ke ve:Expr} {fk fv:Gx PV} {pos:Pos}
def HI(po pi pv:PV):b8->Option b8:=λst=>(jf st.h po).bind λc=>match c.2.k with
 | .eS true ks=>(fV true pi).bind λk=>if ks.length<ic then some ⟨st.ρ,st.h.set c.1 (iO true k pv ks c.2.ps)⟩else none
 | _=>none
def VI(fk fv:Gx PV):Gx PV:=bnd (Lj true) λp=>bnd fk λk=>bnd fv λv=>λst=>(HI p k v st).map λs=>(.ok p,s)
def LI{ah:List (Addr×Obj)}{s:Shared}{σ:St}{H:Hp}{a b:Addr}{xs:List ((bP×List bP)×Addr×Value)}{k:bP×List bP}{r:Value}{A:Around}{E:Value->Shared->Prop}{Q:Unit->Shared->Prop}(hu:A.units+1<cLine)(I:Inv X ah σ H s)(e:H a=some (.dT xs))(hk:fK X.K H xs)(eb:EV X.K H b k)(hl:xs.length<sizeLine)
  (h:∀s',Inv X ah σ (cU H a (.dT (storedH xs k b r))) s'->Q () s'):wpAny (model X.prog X.w) A (dictSet a (.ref b) r) Q E s:=by
 obtain⟨_,hd,dd⟩:=tJ I (.inl e) hk;refine wpAny_dictSet_heap (hsz:=pZ hl) (show(jD (di X.prog X.w)).room A from hu) (key_is I eb) dd λh' Sw hs=>h _ ?_
 obtain⟨q,es,ep,hq,h2,h3,h4,_,h5⟩:=Sw;exact I.write (x:=a) (e:=a) (by rw[e];exact True.intro) (.inl rfl) (λc q' hc z=>(hs.2 c hc).trans z) ⟨q,hq⟩ ⟨(by have:=qA xs k b r;lia),hd,q,es,ep,hq,h2,h3,h4,h5⟩
def QE(hu:X.A.units+1150<cLine)(hk:PE X ke (tE X af ag fk))(hv:PE X ve (tE X af ag fv)):PE X (.Dict [some ke] [ve] pos) (tE X af ag (VI fk fv)):=by
 rintro ah s σ H Q I ⟨F,st,R,h⟩
 refine wpAny_Dict_any rfl rfl (by simp) (by show 1<=15;decide) ?_
 have hp:H s.heap.objs.size=none:=I.hok.fresh (aA _);have h0:=Tx.jH (p:=s.heap.objs.size) (o:=.dT []) (vs:=[]) (Q:=λv H1=>∃F1 st1 pp,Rep X.K af ag F1 st1 σ H1/\bj X.K F1 pp v/\Tx X af ag (bj X.K) F1 st1 (bnd fk λk=>bnd fv λv=>λst=>(HI pp k v st).map λs=>(.ok pp,s)) σ Q)
  (h.bnd λpp v F1 st1 H1 R1 g1 b1 h1=>⟨F1,st1,pp,R1,b1,h1⟩) R hp ⟨[],aB,(λ_ z=>nomatch z),rfl,.nil⟩ .nil
 have I1:=I.laid (a:=s.heap.objs.size) (o:=.dT []) (t':=s.toks) (λ_ _ q=>aJ _ q) (aA _)
  ⟨iD _,fE.mpr (bU (bC (lW I))),_,#[],0,bL s.heap (o:={cls:=.type "dict",data:=.dict #[]}) rfl,⟨rfl,rfl,rfl⟩,rfl,rfl,pV⟩
 obtain⟨F1,st1,pp,R1,b1,h1⟩:=h0;refine pairTrees_cons_walk (jz (hk ah _ σ _ (λx H2=>∃F2 dE pk,Rep X.K af ag F2 dE σ H2/\Gr F1 F2/\bj X.K F2 pk x/\Tx X af ag (bj X.K) F2 dE (bnd fv λv=>λst=>(HI pp pk v st).map λs=>(.ok pp,s)) σ Q) I1 ⟨F1,st1,R1,h1.bnd λpk x F2 dE H2 R2 g2 b2 h2=>⟨F2,dE,pk,R2,g2,b2,h2⟩⟩) ?_ λ_ _ e=>e)
 rintro kv s2 ⟨x,H2,I2,rx,F2,dE,pk,R2,g2,b2,h2⟩
 refine jz (hv ah _ σ _ (λy H3=>∃F3 w9 pv,Rep X.K af ag F3 w9 σ H3/\Gr F2 F3/\bj X.K F3 pv y/\Tx X af ag (bj X.K) F3 w9 (λst=>(HI pp pk pv st).map λs=>(.ok pp,s)) σ Q) I2 ⟨F2,dE,R2,h2.bnd λpv y F3 w9 H3 R3 g3 b3 h3=>⟨F3,w9,pv,R3,g3,b3,h3⟩⟩) ?_ λ_ _ e=>e
 rintro vv s3 ⟨y,H3,I3,ry,F3,w9,pv,R3,g3,b3,h3⟩
 refine pairTrees_nil_walk ?_;have b1:=b1.mono (g2.trans g3);have b2:=b2.mono g3;obtain⟨r,e7,z⟩:=h3;obtain⟨EZ,e8,rfl⟩:=aQ e7;clear e7;obtain⟨⟨n,c⟩,e1,e6⟩:=aO (show((jf w9.h pp).bind λc=>match c.2.k with
  | .eS true ks=>(fV true pk).bind λk=>if ks.length<ic then some (⟨w9.ρ,w9.h.set c.1 (iO true k pv ks c.2.ps)⟩:b8)else none
  | _=>none)=some EZ from e8)
 clear e8;obtain⟨rfl,hc,hl⟩:=gB e1;obtain⟨a,ha,e9⟩:=dk.mp b1;cases e9;obtain⟨_,vs,g4,g5⟩:=R3.c.cell n c _ hc ha hl;split at e6
 ·rename_i ks hk;have hk:=hk;obtain⟨kk,e2,e5⟩:=aO e6;obtain⟨hz,rfl⟩:=aD e5;rw[hk]at g4;obtain⟨xs,q1,q2,q3,q4⟩:=g4;obtain⟨cc,rfl,Oi⟩:=jJ e2 b2;cases rx;unfold storeAll;rw[m7];refine ai (ai (LI (by lia) I3 q1 (λz hz=>ez R3.sub (q2 z hz)) (ez R3.sub Oi) (by
    have:ks.length=xs.length:=by grind
    exact cm (by grind) (d7 (aA _))) λs4 I4=>ar ?_))
  dsimp only
  rw[pU];obtain⟨mR,vG,xc,p1,p2,p3,p4,p5⟩:=GO b3 ry Oi q2 g5 q4;rw[q3]at p1;refine ar ⟨.ref s.heap.objs.size,_,I4,rfl,z _ _ _ ?_ (Gr.refl _) (dk.mpr ⟨_,ha,rfl⟩)⟩;simp only[p1];exact R3.put hc hl ha ⟨_,aB,p3,p2,p5⟩ p4
 ·cases e6
end
section
variable {X:Cx} {af:Hp} {ag:Fz} {e:Expr} {fe:Gx PV} {pos p:Pos}
def VJ(h:List aj)(p:PV):Option (List PV):=match p with
 | .nd .au ps=>some ps
 | p=>ox h p
def LJ(m:Nat)(fe:Gx PV):Gx PV:=bnd fe λp=>bnd (hp λh=>VJ h p) λps=>lg m ps
def QF(Vm:Gl X "list")(Vn:X.mg "list"=none)(he:PE X e (tE X af ag fe))(hs:∀es,starEach (e::es) X.env=(false,eval e X.env)::starEach es X.env):PE X (.Call (.Name "list" p) [e] [] pos) (tE X af ag (LJ m fe)):=by
 rintro ah s σ H Q I ⟨F,st,Rp,h⟩
 refine jq (ld_blt I Vm Vn (iN .list) ?_ (by decide) (by decide))
 refine hZ (Ct (hs []) ?_) (hs []) rfl;have hA:=he ah s σ H (λv H'=>∃F' st' q,Rep X.K af ag F' st' σ H'/\bj X.K F' q v/\Tx X af ag (bj X.K) F' st' (bnd (hp λh=>VJ h q) λps=>lg m ps) σ Q) I ⟨F,st,Rp,h.bnd λq v F1 st1 H1 R1 g1 b1 h1=>⟨F1,st1,q,R1,b1,h1⟩⟩
 refine thn hA λu s1 z9=>?_
 obtain⟨x,H1,I1,r1,F1,st1,q,R1,b1,h1⟩:=z9;obtain⟨ps,f2,h1⟩:=At.hp (At.bnd h1);unfold VJ at f2;split at f2
 ·cases f2;obtain⟨a,vs,rfl,ha,gA⟩:=bO.mp b1;cases r1;obtain⟨ax,rv,⟨o,ho,hc,n,hd⟩,hz⟩:=I1.tuple (cP R1.sub ha);refine call_list_seq (hsz:=by rw[cx,<-rv.length];exact hz) a (.inr rfl) ho hc hd λh' c' hk hS=>?_
  exact⟨.ref s1.heap.objs.size,cU H1 s1.heap.objs.size (.lst vs),I1.laid hk (aA _) ⟨hz,ax,c',rv,hS⟩,rfl,Tx.lg h1 R1 (I1.hok.fresh (aA _)) gA⟩
 ·obtain⟨a,vs,rfl,ha,gA⟩:=R1.at (eP f2) b1;cases r1;obtain⟨ax,rv,⟨o,n,ho,hc,XD,hd⟩,hz⟩:=I1.list (iH.sq ha);refine call_list_seq (hsz:=by rw[cx,<-rv.length];exact hz) a (.inl rfl) ho hc hd λh' c' hk hS=>?_
  exact⟨.ref s1.heap.objs.size,cU H1 s1.heap.objs.size (.lst vs),I1.laid hk (aA _) ⟨hz,ax,c',rv,hS⟩,rfl,Tx.lg h1 R1 (I1.hok.fresh (aA _)) gA⟩
end
structure Gm where
 sc:List (Str×NameKind)
 N:List Str
 own:Bool
 fns:List (Str×Nat)
 call:Str->j7
 cons:List (Str×PV)
 dt:List Str
 tabs:List (Str×List (Str×Str))
 eO:List (Str×List (Str×PV))
 cls:List (Str×Nat)
 make:Str->j7
 clss:List Str
 flds:List Str
 /-- what QG in a cell: 1 a list,2 a list of cells,10 a dict MF keys XW tuples -/
 S5:List (Str×Nat)
 Eo:Option ((PV->Gx PV)->Nat->j7)
 Ep:Option (Nat×(PV->Gx PV))
 /-- XI: class,name -> key,params -/
 HJ:VF
 /-- what QG ZX JC given args -/
 jB:List (Str×List PV)
 /-- classes without __init__ -/
 xo:List Str
noncomputable def slot(Γ:Gm)(x:Str):Option Nat:=Γ.N.findIdx? (· == x)
noncomputable def Sr(Γ:Gm)(x:Str):Bool:=match Γ.sc.lookup x with | some .local=>true | some .cell=>true | some .free=>true | _=>false
noncomputable def SF(Γ:Gm)(x:Str):Bool:=match Γ.sc.lookup x with | some .local=>true | some .cell=>Γ.own | _=>false
noncomputable def wc(Γ:Gm)(x:Str):Bool:=match Γ.sc.lookup x with | some .globalImplicit=>true | _=>false
noncomputable def iQ(x:Str):Bool:=!(x==("__debug__":Str))&&!(x==("__classdict__":Str))&&!(x==("__name__":Str))
noncomputable def md(Γ:Gm)(x:Str):Nat:=(Γ.S5.lookup x).getD 0
noncomputable def Er(m:Nat):Nat:=if m<10 then m-1 else m-20
noncomputable def cpm(m:Nat):Bool:=m != 0&&Nat.blt m 20
def Nt(X:Cx)(fns:List (Str×Nat))(call:Str->j7)(jB:List (Str×List PV)):Prop:=∀x ds n,jB.lookup x=some ds->fns.lookup x=some n->∃j f fd ps jA p9,FnOk X.prog X.w X.K X.mg X.base (ik X.prog X.w) j f fd ps (tY X.K n (call x))/\c7 j X.A/\X.mg x=some (.ref f)/\W.keepIn X.K (.ref f)=true/\Vals jA p9/\(∀F,ay X.K F ds jA)/\cM X.K fd ps p9
def VL(X:Cx)(k:Nat)(fns:List (Str×Nat))(call:Str->j7):Prop:=∀x n,fns.lookup x=some n->∃j f fd ps,j<=k/\FnOk X.prog X.w X.K X.mg X.base (ik X.prog X.w) j f fd ps (tY X.K n (call x))/\X.mg x=some (.ref f)/\W.keepIn X.K (.ref f)=true/\cM X.K fd ps []
structure Nu (Γ:Gm) (X:Cx) (rs:(PV->Gx PV)->Nat->j7):Prop where
 ex:∃(st:Stmt) (fs:Addr) (fds:FuncData) (pr Ns:List Str) (k:Nat) (rb:(PV->Gx PV)->Nat->Gx dJ),rs=(λω n=>gW (rb ω n) Ns.length)/\MH X.K "spread" "spread" st fs fds/\X.mg "spread"=some (.ref fs)/\cM X.K fds pr []/\cN Ns pr (aw st)/\pr.length=2/\c7 (k+2) X.A /\
  (∀(cV:Value) (A:Around) (aC:List Env) (s:Shared) (H:Hp) (E:XK) (af:Hp) (ag:Fz) (n:Nat) (ω:PV->Gx PV),c7 (k+1) (A.deeper (envOfC "spread" (aw st) s.heap.objs.size fs cV))->Hl (fq (ik X.prog X.w) X.prog X.w X.K X.mg X.base Ns "spread" (aw st) fs cV A aC s H E) af ag n ω ->
   PSs (fq (ik X.prog X.w) X.prog X.w X.K X.mg X.base Ns "spread" (aw st) fs cV A aC s H E) (cj st) (tS (fq (ik X.prog X.w) X.prog X.w X.K X.mg X.base Ns "spread" (aw st) fs cV A aC s H E) af ag (rb ω n))) /\
  VL X k Γ.fns Γ.call
 lam:Vi X
structure GOk (Γ:Gm) (X:Cx) (af:Hp) (ag:Fz):Prop where
 names:X.env.scope.names=Γ.sc
 N:X.N=Γ.N
 nd:X.N.Nodup
 kind:X.env.scope.kind=.function
 calm:X.calm=true
 hd:X.A.handled=none
 un:X.A.units+1150<cLine
 own:Γ.own=true->∀x,X.fn x=true
 fns:Ng X Γ.fns Γ.call
 cons:∀x p,Γ.cons.lookup x=some p->∃u v,X.mg x=some u/\RelV v u/\∀F,bj X.K F p v
 dt:∀x,Γ.dt.contains x=true->X.mg x=none
 tabs:∀T rows,Γ.tabs.lookup T=some rows->Cq X.K X.mg X.w.params T rows
 eO:∀T rows,Γ.eO.lookup T=some rows->vW X.K X.mg X.w.params T rows
 ns:∀x a,W.nsIn X.K mainGlobals x=some (some (.ref a))->X.mg x=some (.ref a)
 Nv:yh X.K Γ.clss Γ.flds
 cls:∀C n,Γ.cls.lookup C=some n->∃k Ca f fd ps,ClsAt X.K C (.ref Ca)/\sy X.K Ca/\Mk X.K Ca f/\FnOk X.prog X.w X.K X.mg X.base (ik X.prog X.w) k f fd ps (tY X.K n (Γ.make C))/\c7 (k+1) X.A/\X.mg C=some (.ref Ca)/\cM X.K fd ps []
 Eo:∀rs,Γ.Eo=some rs->Nu Γ X rs
 Ep:∀n ω,Γ.Ep=some (n,ω)->Hl X af ag n ω
 HJ:wa X Γ.HJ Γ.call
 jB:Nt X Γ.fns Γ.call Γ.jB
 xo:∀C,Γ.xo.contains C=true->∃Ca,ClsAt X.K C (.ref Ca)/\sy X.K Ca/\XY X.K Ca/\X.mg C=some (.ref Ca)
def GOk.Sq{Γ:Gm}{X:Cx}{af:Hp}{ag:Fz}(G:GOk Γ X af ag)(h:(Γ.Eo.isNone&&Γ.Ep.isNone)=true):GOk Γ X.Sq af ag :=
 ⟨G.names,G.N,G.nd,G.kind,G.calm,G.hd,G.un,G.own,G.fns,G.cons,G.dt,G.tabs,G.eO,G.ns,G.Nv,G.cls,(λrs e=>by rw[e]at h;cases h),(λn ω e=>by rw[e,Bool.and_comm]at h;cases h),G.HJ,G.jB,G.xo⟩
noncomputable def br:Expr->Bool
 | .Starred _ _=>false
 | .Set _ _ _=>false
 | _=>true
noncomputable def o9:Expr->Bool
 | .Slice _ _ _ _=>false
 | _=>true
noncomputable def CF:Expr->Bool
 | .Tuple _ _ _=>false
 | .ListComp _ _ _ _=>false
 | .SetComp _ _ _ _=>false
 | .DictComp _ _ _ _ _=>false
 | _=>true
noncomputable def jP:Expr->Bool
 | .ListComp _ _ _ _=>false
 | .SetComp _ _ _ _=>false
 | .DictComp _ _ _ _ _=>false
 | _=>true
noncomputable def we:Expr->Bool
 | .Name _ _=>true
 | .Subscript _ _ _=>true
 | .Attribute _ _ _=>true
 | .Call _ (_::_) _ _=>true
 | _=>false
def j8(h:we e=true):attributeBase e f env (eval e env)=eval e env:=by
 cases e with
 | Call f as ks=>cases as with
  | nil=>cases h
  | cons=>cases f<;>rfl
 | _=>first | rfl | cases h
def wj(h:CF e=true):jP e=true:=by
 cases e<;>first | rfl | cases h
noncomputable def AX:Expr->Bool
 | .UnaryOp .Not _ _=>false
 | .BoolOp _ _ _=>false
 | .IfExp _ _ _ _=>false
 | .Compare _ _ _ _=>false
 | _=>true
def bA(h:br e=true)(es:List Expr)(env:Env):starEach (e::es) env=(false,eval e env)::starEach es env:=by
 cases e<;>first | rfl | cases h
def g7(h:br e=true)(op:CmpOp):behindInMarks op e=false:=by
 cases e<;>first | rfl | cases h
def gP(h:br e=true)(env:Env)(x:Value):foldedSetIterable e env x=pure x:=by
 cases e<;>first | rfl | cases h
def qX(h:o9 e=true):lP e:=by
 intro o i;cases e<;>first | rfl | cases h
def HK(h:AX e=true)(env:Env)(i6:Sem Value):isTrue e env i6=(do let v <-i6;standAt e.pos;holding [v] (truthy v)):=by
 cases e with
 | UnaryOp op a p=>cases op<;>first | rfl | cases h
 | BoolOp _ _ _=>cases h
 | IfExp _ _ _ _=>cases h
 | Compare _ _ _ _=>cases h
 | _=>rfl
def jQ(h:jP e=true)(t:Option Expr)(l:Nat)(env:Env):swapsWith e t l env=pure false:=by
 cases e<;>first | rfl | cases h
def fY(h:es.all br=true)(env:Env)(pos:Pos):(backTo pos (starEach es env)).any (·.1)=false:=by
 induction es with
 | nil=>rfl
 | cons e es ih =>
  rw[iC,aH]at h;rw[bA h.1];exact ih h.2
def AY(h:es.all br=true)(env:Env)(pos:Pos):(backTo pos (starEach es env)).all (λx=>!x.1)=true:=by
 induction es with
 | nil=>rfl
 | cons e es ih =>
  rw[iC,aH]at h;rw[bA h.1];exact ih h.2
def CG(h:es.all br=true)(hl:es.length<30):((backTo cp (starEach es env)).all (λx=>!x.1)&&(backToKw cp (keywordEach [] env)).all (λx=>x.1.isSome)
   && decide (es.length+([]:List Keyword).length+(if([]:List Keyword).isEmpty then 0 else 1)<30))=true:=by
 rw[AY h];simp only[vh,aH,uS];exact⟨rfl,hl⟩
def gQ(h:iQ x=true):(x==("__debug__":Str))=false/\(x==("__classdict__":Str))=false/\x≠"__name__":=by
 unfold iQ at h;simp only[aH,zG]at h;exact⟨h.1.1,h.1.2,by simpa using h.2⟩
noncomputable def wo:Nat->Gm->Expr->Option (Tg×List Nat)
 | 0,_,_=>none
 | n+1,Γ,e=>match e with
  | .Name x _=>if SF Γ x=true then(slot Γ x).map λi=>(dh i,[i])else none
  | .Tuple es _ _=>(es.foldr (λe r=>(wo n Γ e).bind λg=>r.map λgs=>(qG g.1 gs.1,g.2++gs.2)) (some (DP,[]))).map λgs=>(AA es.length gs.1,gs.2)
  | _=>none
def HL(h:slot Γ x=some i):Γ.N[i]?=some x:=by
 unfold slot at h;obtain⟨hi,hp,_⟩:=List.findIdx?_eq_some_iff_getElem.mp h;rw[dU hi];exact dH some (aV hp)
section
variable {Γ:Gm} {X:Cx} {x:Str} {pos:Pos} {af:Hp} {ag:Fz}
def GOk.ZY(G:GOk Γ X af ag)(h:Sr Γ x=true):Sn X.env.scope x:=by
 unfold Sr at h;unfold Sn;rw[G.names];split at h<;>simp_all
def GOk.QH(G:GOk Γ X af ag)(h:SF Γ x=true):MN X.env.scope x/\(X.fn x=true\/X.env.scope.names.lookup x=some .local):=by
 unfold SF at h;unfold MN;rw[G.names];split at h
 ·grind
 ·rename_i z;exact⟨.inr z,.inl (G.own h x)⟩
 ·cases h
def GOk.iR(G:GOk Γ X af ag)(h:wc Γ x=true):Gl X x:=by
 unfold wc at h;show X.env.scope.names.lookup x=_;rw[G.names];split at h
 ·assumption
 ·cases h
def GOk.uf(G:GOk Γ X af ag)(h:slot Γ x=some i):X.N[i]?=some x:=by
 rw[G.N];exact HL h
theorem my(G:GOk Γ X af ag):∀(n:Nat) (e:Expr) (g:Tg×List Nat),wo n Γ e=some g->PG X e (tG X.K af ag g.1)/\KG g.2 g.1/\(∀env:Env,(assignEach [e] env).map (·.2)=[assign e env])/\∀(es:List Expr) (env:Env),assignEach (e::es) env=(false,assign e env)::assignEach es env
 | 0,_,_,h=>by cases h
 | n+1,e,g,h=>by
  cases e with
  | Name x p =>
   have h:=h;obtain⟨hs,h⟩:=bS h;obtain⟨i,z,rfl⟩:=aQ h;obtain⟨h1,h2⟩:=G.QH hs;exact⟨Po i (JY G.nd (G.uf z) h1 h2),K5 i,λ_=>rfl,λ_ _=>rfl⟩
  | Tuple es k p =>
   have all:∀es gs,es.foldr (λe r=>(wo n Γ e).bind λg=>r.map λgs=>(qG g.1 gs.1,g.2++gs.2)) (some (DP,[]))=some gs ->
     PGs X es (Uy X.K af ag gs.1)/\UW gs.2 gs.1/\∀env:Env,(assignEach es env).length=es.length/\(assignEach es env).findIdx? (·.1)=none:=by
    intro es;induction es with
    | nil =>
     intro gs h;cases h;exact⟨Pp,K6,λenv=>⟨rfl,rfl⟩⟩
    | cons e es ih =>
     intro gs h;rw[List.foldr_cons]at h;obtain⟨g1,e1,h⟩:=aO h;obtain⟨g2,z,rfl⟩:=aQ h;obtain⟨a1,a2,a3,a4⟩:=my G n e g1 e1;obtain⟨b1,b2,b3⟩:=ih g2 z;refine⟨Kx a1 b1 (by grind),GV a2 b2,λenv=>?_⟩
     rw[a4];obtain⟨c1,c2⟩:=b3 env;exact⟨by rw[cq,cq,c1],by grind⟩
   have h:=h;obtain⟨gs,z,rfl⟩:=aQ h;obtain⟨b1,b2,b3⟩:=all es gs z;exact⟨Uz G.calm b1 (b3 _).1 (b3 _).2,PU b2,λ_=>rfl,λ_ _=>rfl⟩
  | _=>cases h
def Es(G:GOk Γ X af ag)(hn:iQ x=true)(hv:Sr Γ x=true)(hs:slot Γ x=some i):PE X (.Name x pos) (JQ i) :=
 pe_var (G.uf hs) (G.ZY hv) (gQ hn).1 (gQ hn).2.1
end
def wq(x:Str):Option GC :=
 if x==("len":Str)then some ki
 else if x==("tuple":Str)then some DR
 else if x==("int":Str)then some GI
 else if x==("sum":Str)then some KP
 else if x==("str":Str)then some KO
 else none
def HM:bootBuiltins "sum"=some (.builtin "sum"):=by kernel_rfl
set_option maxHeartbeats 4000000 in
theorem QI(h:wq x=some g)(hh:X.A.handled=none)(hg:Gl X x)(hm:X.mg x=none)(ha:PA X (a::es) (tA X af ag ts))
  (he:starEach (a::es) X.env=(false,eval a X.env)::starEach es X.env) (qd:(backTo pos (starEach es X.env)).any (·.1)=false):PE X (.Call (.Name x p) (a::es) [] pos) (tE X af ag (KN g ts)):=by
 unfold wq at h;split at h
 ·rename_i e;cases h;have e:=aV e;subst e;exact(qw DS hg hm PySem.boot_len ha (by decide) (by decide) he qd).imp λ_ _ _ h=>mh h
 ·split at h
  ·rename_i e;cases h;have e:=aV e;subst e;exact(nC DT hg hm (iN .tuple) ha (by decide) (by decide) he qd).imp λ_ _ _ h=>mh h
  ·split at h
   ·rename_i e;cases h;have e:=aV e;subst e;exact(nC DU hg hm (iN .int) ha (by decide) (by decide) he qd).imp λ_ _ _ h=>mh h
   ·split at h
    ·rename_i e;cases h;have e:=aV e;subst e;exact(qw (DW hh) hg hm HM ha (by decide) (by decide) he qd).imp λ_ _ _ h=>mh h
    ·split at h
     ·rename_i e;cases h;have e:=aV e;subst e;exact(nC DV hg hm (iN .str) ha (by decide) (by decide) he qd).imp λ_ _ _ h=>mh h
     ·cases h
noncomputable def HN:ScopeKind->Bool
 | .function=>true
 | _=>false
noncomputable def ug(scope:Scope):List Str:=(scope.names.filter λy=>match y.2 with | .local=>true | .free=>true | _=>false).map (·.1)
def gS(Γ:Gm)(scope:Scope):List (Option Nat):=(ug scope).map λx=>match scope.names.lookup x with | some .free=>slot Γ x | _=>none
noncomputable def AZ(Γ:Gm)(scope:Scope):List (Str×NameKind):=scope.names.map fun(n,k)=>if(k==NameKind.free&&Γ.sc.lookup n==some .cell)then(n,NameKind.cell)else(n,k)
def uh(Γ:Gm)(scope:Scope):Gm:={Γ with sc:=AZ Γ scope,N:=ug scope,own:=false,Eo:=none,Ep:=none}
def qY(Γ:Gm)(scope:Scope)(L:List Nat):Bool :=
 HN scope.kind&&scope.names.all (λy=>match y.2 with
  | .cell=>false
  | .local=>(match scope.names.lookup y.1 with | some .local=>true | _=>false)
  | .free=>(match Γ.sc.lookup y.1 with | some .cell=>true | some .free=>true | _=>false)
  | _=>true)&&decide (ug scope).Nodup&&L.all λi=>match(gS Γ scope)[i]? with | some none=>true | _=>false
section
variable {Γ:Gm} {X:Cx} {scope:Scope} {L:List Nat} {af:Hp} {ag:Fz}
def mz(h:qY Γ scope L=true):scope.kind=.function/\(∀y∈scope.names,(match y.2 with
  | .cell=>false
  | .local=>(match scope.names.lookup y.1 with | some .local=>true | _=>false)
  | .free=>(match Γ.sc.lookup y.1 with | some .cell=>true | some .free=>true | _=>false)
  | _=>true)=true)/\(ug scope).Nodup/\∀i∈L,(gS Γ scope)[i]?=some none:=by
 unfold qY at h;simp only[aH,fG,uS]at h;obtain⟨⟨⟨h1,h2⟩,h3⟩,h4⟩:=h;refine⟨?_,h2,h3,λi hi=>?_⟩
 ·unfold HN at h1;split at h1
  ·assumption
  ·cases h1
 ·grind
def A0(G:GOk Γ X af ag)(h:qY Γ scope L=true):ip X (ug scope) (gS Γ scope) scope:=by
 obtain⟨h1,h2,h3,h4⟩:=mz h;refine⟨h1,λy hy z=>?_,λy hy z=>?_,λy hy z=>?_,by unfold gS;rw[aT],λi j x hl hx=>?_⟩
 ·grind
 ·grind
 ·have:=h2 y hy;rw[z]at this;simp only at this;show X.env.scope.names.lookup y.1=_\/X.env.scope.names.lookup y.1=_;rw[G.names];split at this
  ·grind
  ·grind
  ·cases this
 ·unfold gS at hl;rw[cY,hx]at hl;have hl:(match scope.names.lookup x with | some .free=>slot Γ x | _=>none)=some j:=by grind
  split at hl
  ·exact⟨G.uf hl,by assumption⟩
  ·cases hl
def HP(G:GOk Γ X af ag)(h:qY Γ scope L=true)(C:Addr)(s:Shared)(H:Hp)(fp:List Addr)(ZZ:Hp)(Z2:Fz):GOk (uh Γ scope) (cy X (ug scope) scope C s H fp) ZZ Z2 where
 names:=by
  show(relabel scope X.env).names=AZ Γ scope;have e:∀n,X.env.kindOf n=Γ.sc.lookup n:=λn=>by show X.env.scope.names.lookup n=_;rw[G.names]
  unfold AZ relabel;simp only[G.kind,e]
  congr 1
  funext y
  obtain⟨n,k⟩:=y;simp
 N:=rfl
 nd:=(mz h).2.2.1
 kind:=by
  exact(mz h).1
 calm:=G.calm
 hd:=G.hd
 un:=G.un
 own:=λz=>by cases z
 fns:=G.fns
 cons:=G.cons
 dt:=G.dt
 tabs:=G.tabs
 eO:=G.eO
 ns:=G.ns
 Nv:=G.Nv
 cls:=G.cls
 Eo:=λ_ z=>by cases z
 Ep:=λ_ _ z=>by cases z
 HJ:=G.HJ
 jB:=G.jB
 xo:=G.xo
end
noncomputable def cu{α:Type}:Gx α:=λ_=>none
section
variable {X:Cx} {af:Hp} {ag:Fz} {e:Expr} {es:List Expr}
def ui{C:Prop}(h:tX X af ag rl cu σ H Q):C:=by
 obtain⟨F,st,R,r,z,_⟩:=h;cases z
def aS:PE X e (tE X af ag cu):=λ_ _ _ _ _ _ h=>ui h
def uj:PT X e (tT X af ag cu):=λ_ _ _ _ _ _ h=>ui h
def HQ:PW X e (tT X af ag cu):=λ_ _ _ _ _ _ _ h=>ui h
def Nw:PA X es (tA X af ag cu):=λ_ _ _ _ _ _ _ h=>ui h
def Nx{tg:Expr}:PI X tg e (E4 X af ag cu):=λ_ _ _ _ _ _ h=>ui h
end
def mB(m n:Nat)(g:j7)(as:List PV):Gx PV:=λst=>if((m==0)&&(st.h.isEmpty || ao as))=true then jM n g as st else ig n g as st
def Z4(G:FnOk X.prog X.w X.K X.mg X.base (ik X.prog X.w) k f fd ps (tY X.K n g))(hr:c7 k X.A)(hb:cM X.K fd ps []):AM X f (mB m n g):=by
 rintro af H ag F st σ ah s Q as us vs I R b r ⟨q,e1,e2⟩
 unfold mB at e1;split at e1
 ·exact U8 G hr hb af H ag F st σ ah s Q as us vs I R b r ⟨q,e1,e2⟩
 ·exact Qb G hr hb af H ag F st σ ah s Q as us vs I R b r ⟨q,e1,e2⟩
def VM(Γ:Gm):Expr->Nat
 | .Name x _=>Er (md Γ x)
 | .Attribute _ f _=>Er (md Γ f)
 | _=>0
def Z5(Γ:Gm)(g:Str)(o:Expr):Nat:=if g==("get":Str)then 0 else VM Γ o
noncomputable def wt(e:Expr):Option {x:Option Expr×Option Expr // ∃p,e=.Slice x.1 x.2 none p}:=match e with
 | .Slice lo hi none p=>some ⟨(lo,hi),p,rfl⟩
 | _=>none
noncomputable def A1(e:Expr):Option {x:Option Expr×Expr // ∃p,e=.Slice x.1 none (some x.2) p}:=match e with
 | .Slice lo none (some m) p=>some ⟨(lo,m),p,rfl⟩
 | _=>none
def Z6:Const->Gx PV
 | .int i=>cD (.int i)
 | .bool i=>cD (.bl i)
 | .none=>cD .aL
 | .str i=>cD (.str i)
 | _=>cu
def QJ(Γ:Gm)(x:Str):Gx PV:=if iQ x=true then(if Sr Γ x=true then(match slot Γ x with | some i=>rd i | none=>cu)else if wc Γ x=true then(match Γ.cons.lookup x with | some p=>cD p | none=>cu)else cu)else cu
noncomputable def A2(a:Expr):Option {x:Str×Expr×List Expr // ∃p q,a=.Call (.Name x.1 p) (x.2.1::x.2.2) [] q}:=match a with
 | .Call (.Name z p) (b::bs) [] q=>some ⟨(z,b,bs),p,q,rfl⟩
 | _=>none
def i9(Γ:Gm)(x:Str):Bool:=wc Γ x&&Γ.dt.contains x
noncomputable def VN:Operator->Bool
 | .Add=>true
 | _=>false
mutual
noncomputable def aX:Nat->Gm->Nat->Expr->Gx PV
 | 0,_,_,_=>cu
 | n+1,Γ,m,e=>match e with
  | .Constant c _ _=>Z6 c
  | .Name x _=>QJ Γ x
  | .BinOp a op b _=>if(m != 0&&VN op)=true then Ql m (aX n Γ 0 a) (aX n Γ 0 b)else(match LB op with | some g=>op2 g (aX n Γ 0 a) (aX n Γ 0 b) | none=>cu)
  | .UnaryOp .Not a _=>Pa (aX n Γ 0 a)
  | .UnaryOp .USub a _=>PF (aX n Γ 0 a)
  | .BoolOp op vs _=>HR n Γ op vs
  | .Compare a ops bs _=>QK n Γ a ops bs
  | .IfExp c a b _=>ow (sN n Γ c) (aX n Γ m a) (aX n Γ m b)
  | .Tuple es _ _=>Pc .au (jR n Γ m es)
  | .List es _=>(match m with | 0=>Pc .lst (jR n Γ 0 es) | _=>DO (jR n Γ (Er m) es))
  | .Dict [] [] _=>Lj (m==10)
  | .Dict [some k] [v] _=>VI (aX n Γ 0 k) (aX n Γ 0 v)
  | .Subscript a b _=>QL n Γ a b
  | .ListComp elt gens scope _=>QM n Γ m elt gens scope
  | .Attribute o f _=>if we o=true then Ll f (aX n Γ 0 o)else cu
  | .Call f (a::es) [] cp=>if(a::es).all br=true then QN n Γ m f a es cp else cu
  | .Call (.Attribute o f ap) [] [] cp=>if(we o&&(ap.endLine==cp.line))=true then(if f==("pop":Str)then Jt "list" (fu qV) (aX n Γ 0 o) (cD [])else match Hh f with | some w=>Jt w.1 w.2 (aX n Γ 0 o) (cD []) | none=>yu (ud Γ.HJ f) Γ.call f (aX n Γ 0 o) (cD []))else cu
  | .Call (.Name C _) [] [] _=>if(iQ C&&wc Γ C)=true then(match Γ.cls.lookup C with | some k=>VD C k (Γ.make C) (cD []) | none=>cu)else cu
  | _=>cu
termination_by structural n=>n
noncomputable def QN:Nat->Gm->Nat->Expr->Expr->List Expr->Pos->Gx PV
 | 0,_,_,_,_,_,_=>cu
 | n+1,Γ,m,f,a,es,cp=>match f with
  | .Name x _=>if iQ x=true then(if wc Γ x=true then QO n Γ m x a es else cu)else cu
  | .Subscript v k p=>Cr Γ.fns Γ.call (aX n Γ 0 (.Subscript v k p)) (jR n Γ 0 (a::es))
  | .Attribute o g ap=>if(we o&&(ap.endLine==cp.line)&&decide ((a::es).length<30))=true then(match yf g with | some w=>Jt w.1 w.2 (aX n Γ 0 o) (jR n Γ (Z5 Γ g o) (a::es)) | none=>yu (ud Γ.HJ g) Γ.call g (aX n Γ 0 o) (jR n Γ 0 (a::es)))else cu
  | _=>cu
termination_by structural n=>n
noncomputable def QO:Nat->Gm->Nat->Str->Expr->List Expr->Gx PV
 | 0,_,_,_,_,_=>cu
 | n+1,Γ,m,x,a,es=>if x==("spread":Str)then HS n Γ a es else match Γ.fns.lookup x with
  | some k=>if(a::es).length==k then bnd (jR n Γ 0 (a::es)) (mB m k (Γ.call x))else(match Γ.jB.lookup x with | some ds=>bnd (jR n Γ 0 (a::es)) (qW m k (Γ.call x) ds) | none=>cu)
  | none=>match Γ.cls.lookup x with
   | some k=>(match m with | 0=>cu | _=>VD x k (Γ.make x) (jR n Γ 0 (a::es)))
   | none=>if Γ.dt.contains x=true then(if x==("isinstance":Str)then HU n Γ a es else if x==("sorted":Str)then HV n Γ a es else if x==("dict":Str)then QP n Γ a es else if x==("list":Str)then HW n Γ m a es else match wq x with | some g=>KN g (jR n Γ 0 (a::es)) | none=>cu)else cu
termination_by structural n=>n
noncomputable def HS:Nat->Gm->Expr->List Expr->Gx PV
 | 0,_,_,_=>cu
 | n+1,Γ,a,es=>cu
termination_by structural n=>n
noncomputable def HW:Nat->Gm->Nat->Expr->List Expr->Gx PV
 | 0,_,_,_,_=>cu
 | n+1,Γ,m,a,es=>match es with
  | []=>(match A2 a with
   | some ⟨zs,_⟩=>if(zs.1==("range":Str)&&i9 Γ zs.1&&(zs.2.1::zs.2.2).all br)=true then ZE m (jR n Γ 0 (zs.2.1::zs.2.2))else(match zs.2.2 with
    | [b]=>if(zs.1==("zip":Str)&&i9 Γ zs.1&&br zs.2.1&&br b)=true then Qs m (aX n Γ 0 zs.2.1) (aX n Γ 0 b)else cu
    | _=>cu)
   | none=>LJ m (aX n Γ 0 a))
  | _=>cu
termination_by structural n=>n
noncomputable def QP:Nat->Gm->Expr->List Expr->Gx PV
 | 0,_,_,_=>cu
 | n+1,Γ,a,es=>match es with
  | []=>Lq (aX n Γ 0 a)
  | _=>cu
termination_by structural n=>n
noncomputable def HV:Nat->Gm->Expr->List Expr->Gx PV
 | 0,_,_,_=>cu
 | n+1,Γ,a,es=>cu
termination_by structural n=>n
noncomputable def HU:Nat->Gm->Expr->List Expr->Gx PV
 | 0,_,_,_=>cu
 | n+1,Γ,a,es=>match es with
  | [.Name t _]=>if i9 Γ t=true then(match B5 t with | some g=>Xs g (aX n Γ 0 a) | none=>cu)else cu
  | _=>cu
termination_by structural n=>n
noncomputable def QK:Nat->Gm->Expr->List CmpOp->List Expr->Gx PV
 | 0,_,_,_,_=>cu
 | n+1,Γ,a,ops,bs=>match ops,bs with
  | [op],[b]=>if br b=true then(match AE op with | some g=>op2 g (aX n Γ 0 a) (aX n Γ 0 b) | none=>cu)else cu
  | [op,xa],[b,c]=>if br c=true then(match AE op,AE xa with | some g,some g'=>chain g g' (aX n Γ 0 a) (aX n Γ 0 b) (aX n Γ 0 c) | _,_=>cu)else cu
  | _,_=>cu
termination_by structural n=>n
noncomputable def QL:Nat->Gm->Expr->Expr->Gx PV
 | 0,_,_,_=>cu
 | n+1,Γ,a,b=>match wt b with
  | some ⟨lh,_⟩=>cutE (aX n Γ 0 a) (Et n Γ lh.1) (Et n Γ lh.2)
  | none=>match A1 b with
  | some ⟨lm,_⟩=>PH (aX n Γ 0 a) (Et n Γ lm.1) (Et n Γ (some lm.2))
  | none=>if o9 b=true then(match a with
   | .Name T p=>if(iQ T&&wc Γ T)=true then(match Γ.eO.lookup T with
    | some rows=>Ee (λk=>rows.lookup k) (aX n Γ 0 b)
    | none=>match Γ.tabs.lookup T with
     | some rows=>Ee (λk=>(rows.lookup k).map .fn) (aX n Γ 0 b)
     | none=>op2 bu (aX n Γ 0 (.Name T p)) (aX n Γ 0 b))else op2 bu (aX n Γ 0 (.Name T p)) (aX n Γ 0 b)
   | a=>op2 bu (aX n Γ 0 a) (aX n Γ 0 b))else cu
termination_by structural n=>n
noncomputable def sN:Nat->Gm->Expr->Gx Bool
 | 0,_,_=>cu
 | n+1,Γ,e=>match e with
  | .UnaryOp .Not a _=>Ku (sN n Γ a)
  | .BoolOp op vs _=>HX n Γ op vs
  | .Compare a [op] [b] _=>if br b=true then(match AE op with | some g=>toB (op2 g (aX n Γ 0 a) (aX n Γ 0 b)) | none=>cu)else cu
  | .Compare a [op,xa] [b,c] _=>if br c=true then(match AE op,AE xa with | some g,some g'=>toB (chain g g' (aX n Γ 0 a) (aX n Γ 0 b) (aX n Γ 0 c)) | _,_=>cu)else cu
  | e=>if AX e=true then vH (aX n Γ 0 e)else cu
termination_by structural n=>n
noncomputable def HR:Nat->Gm->BoolOp->List Expr->Gx PV
 | 0,_,_,_=>cu
 | n+1,Γ,op,[a]=>aX n Γ 0 a
 | n+1,Γ,.And,a::b::r=>O9 (aX n Γ 0 a) (HR n Γ .And (b::r))
 | n+1,Γ,.Or,a::b::r=>Xq (aX n Γ 0 a) (HR n Γ .Or (b::r))
 | _,_,_,_=>cu
termination_by structural n=>n
noncomputable def HX:Nat->Gm->BoolOp->List Expr->Gx Bool
 | 0,_,_,_=>cu
 | n+1,Γ,op,[a]=>sN n Γ a
 | n+1,Γ,.And,a::b::r=>ow (sN n Γ a) (HX n Γ .And (b::r)) (cD false)
 | n+1,Γ,.Or,a::b::r=>ow (sN n Γ a) (cD true) (HX n Γ .Or (b::r))
 | _,_,_,_=>cu
termination_by structural n=>n
noncomputable def jR:Nat->Gm->Nat->List Expr->Gx (List PV)
 | 0,_,_,_=>cu
 | n+1,Γ,m,[]=>cD []
 | n+1,Γ,m,e::es=>if br e=true then i7 (aX n Γ m e) (jR n Γ m es)else cu
termination_by structural n=>n
noncomputable def Et:Nat->Gm->Option Expr->Gx (Option Int)
 | 0,_,_=>cu
 | n+1,Γ,none=>cD none
 | n+1,Γ,some e=>GG (aX n Γ 0 e)
termination_by structural n=>n
noncomputable def HY:Nat->Gm->Expr->Expr->Gx Cg
 | 0,_,_,_=>cu
 | n+1,Γ,tg,e=>match e with
  | .Call (.Name x p) [a] [] cp=>if(x==("range":Str)&&i9 Γ x&&br a)=true then SA (P0 xZ (jR n Γ 0 [a]))
    else if(x==("enumerate":Str)&&i9 Γ x&&br a&&Ce tg)=true then SA (Cf (aX n Γ 0 a))
    else AL (aX n Γ 0 (.Call (.Name x p) [a] [] cp))
  | .Call (.Name x p) [a,b] [] cp=>if(x==("zip":Str)&&i9 Γ x&&br a&&br b&&Ce tg)=true then SA (QA (aX n Γ 0 a) (aX n Γ 0 b))
    else AL (aX n Γ 0 (.Call (.Name x p) [a,b] [] cp))
  | e=>if br e=true then AL (aX n Γ 0 e)else cu
termination_by structural n=>n
noncomputable def QM:Nat->Gm->Nat->Expr->List Comprehension->Scope->Gx PV
 | 0,_,_,_,_,_=>cu
 | n+1,Γ,m,elt,gens,scope=>match gens with
  | [⟨tg,iter,ifs,0⟩]=>if br iter=true then(match wo n (uh Γ scope) tg with
   | some g=>if qY Γ scope g.2=true then(match ifs with
    | []=>jL (cpm m) (gS Γ scope) (HY n Γ tg iter) (oC g.1 (aX n (uh Γ scope) (Er m) elt))
    | [c]=>jL (cpm m) (gS Γ scope) (HY n Γ tg iter) (xX g.1 (sN n (uh Γ scope) c) (aX n (uh Γ scope) (Er m) elt))
    | _=>cu)else cu
   | none=>cu)else cu
  | _=>cu
termination_by structural n=>n
end
def CC(X:Cx)(af:Hp)(ag:Fz)(elt:Expr)(gens:List Comprehension)(scope:Scope)(p:Pos)(f:Gx PV):Prop:=PE X (.ListComp elt gens scope p) (tE X af ag f) /\
  ∀i x p' sp,X.N[i]?=some x->X.env.scope.names.lookup x=some .local->swapsWith (.ListComp elt gens scope p) (some (.Name x p')) sp.line X.env=pure true ->
   PS X (.Assign [.Name x p'] (.ListComp elt gens scope p) sp) (tS X af ag (lZ f (dh i)))
structure Z7 (n:Nat):Prop where
 e:∀Γ X af ag m e,GOk Γ X af ag->PE X e (tE X af ag (aX n Γ m e))
 f:∀Γ X af ag m f a es cp,GOk Γ X af ag->(a::es).all br=true->PE X (.Call f (a::es) [] cp) (tE X af ag (QN n Γ m f a es cp))
 cn:∀Γ X af ag m x a es p cp,GOk Γ X af ag->(a::es).all br=true->iQ x=true->wc Γ x=true->PE X (.Call (.Name x p) (a::es) [] cp) (tE X af ag (QO n Γ m x a es))
 sp:∀Γ X af ag a es p cp,GOk Γ X af ag->(a::es).all br=true->wc Γ "spread"=true->PE X (.Call (.Name "spread" p) (a::es) [] cp) (tE X af ag (HS n Γ a es))
 st:∀Γ X af ag a es p cp,GOk Γ X af ag->(a::es).all br=true->wc Γ "sorted"=true->Γ.dt.contains "sorted"=true->PE X (.Call (.Name "sorted" p) (a::es) [] cp) (tE X af ag (HV n Γ a es))
 d:∀Γ X af ag a es p cp,GOk Γ X af ag->(a::es).all br=true->wc Γ "dict"=true->Γ.dt.contains "dict"=true->PE X (.Call (.Name "dict" p) (a::es) [] cp) (tE X af ag (QP n Γ a es))
 li:∀Γ X af ag m a es p cp,GOk Γ X af ag->(a::es).all br=true->wc Γ "list"=true->Γ.dt.contains "list"=true->PE X (.Call (.Name "list" p) (a::es) [] cp) (tE X af ag (HW n Γ m a es))
 is:∀Γ X af ag a es p cp,GOk Γ X af ag->(a::es).all br=true->wc Γ "isinstance"=true->Γ.dt.contains "isinstance"=true->PE X (.Call (.Name "isinstance" p) (a::es) [] cp) (tE X af ag (HU n Γ a es))
 k:∀Γ X af ag a ops bs p,GOk Γ X af ag->PE X (.Compare a ops bs p) (tE X af ag (QK n Γ a ops bs))
 x:∀Γ X af ag a b p,GOk Γ X af ag->PE X (.Subscript a b p) (tE X af ag (QL n Γ a b))
 t:∀Γ X af ag e,GOk Γ X af ag->PT X e (tT X af ag (sN n Γ e))
 b:∀Γ X af ag op vs p,GOk Γ X af ag->PE X (.BoolOp op vs p) (tE X af ag (HR n Γ op vs))
 w:∀Γ X af ag op vs p,GOk Γ X af ag->PW X (.BoolOp op vs p) (tT X af ag (HX n Γ op vs))
 a:∀Γ X af ag m es,GOk Γ X af ag->PA X es (tA X af ag (jR n Γ m es))
 l:∀Γ X af ag e,GOk Γ X af ag->PO X e (KL X af ag (Et n Γ e))
 i:∀Γ X af ag tg e,GOk Γ X af ag->PI X tg e (E4 X af ag (HY n Γ tg e))
 c:∀Γ X af ag m elt gens scope p,GOk Γ X af ag->CC X af ag elt gens scope p (QM n Γ m elt gens scope)
def pI{X:Cx}{af:Hp}{ag:Fz}{e:Expr}{c:Prop} [Decidable c] {f g:Gx PV} (h:c->PE X e (tE X af ag f)) (h':PE X e (tE X af ag g)):PE X e (tE X af ag (if c then f else g)):=by
 split
 ·exact h ‹_›
 ·exact h'
def pJ{X:Cx}{af:Hp}{ag:Fz}{e:Expr}{c:Prop} [Decidable c] {f:Gx PV} (h:c->PE X e (tE X af ag f)):PE X e (tE X af ag (if c then f else cu)):=pI h aS
def gu:PS X s (tS X af ag cu):=λ_ _ _ _ _ _ ⟨F,st,R,r,z,_⟩=>by cases z
def wu:PS X s (tS X af ag (lZ cu g)):=λ_ _ _ _ _ _ ⟨F,st,R,r,z,_⟩=>by cases z
def VO{ag:Fz}:PO X e (KL X af ag cu):=λ_ _ _ _ _ _ h=>ui h
def HZ:Z7 0 where
 e:=λ_ _ _ _ _ _ _=>aS
 f:=λ_ _ _ _ _ _ _ _ _ _ _=>aS
 cn:=λ_ _ _ _ _ _ _ _ _ _ _ _ _ _=>aS
 sp:=λ_ _ _ _ _ _ _ _ _ _ _=>aS
 st:=λ_ _ _ _ _ _ _ _ _ _ _ _=>aS
 d:=λ_ _ _ _ _ _ _ _ _ _ _ _=>aS
 li:=λ_ _ _ _ _ _ _ _ _ _ _ _ _=>aS
 is:=λ_ _ _ _ _ _ _ _ _ _ _ _=>aS
 k:=λ_ _ _ _ _ _ _ _ _=>aS
 x:=λ_ _ _ _ _ _ _ _=>aS
 t:=λ_ _ _ _ _ _=>uj
 b:=λ_ _ _ _ _ _ _ _=>aS
 w:=λ_ _ _ _ _ _ _ _=>HQ
 a:=λ_ _ _ _ _ _ _=>Nw
 l:=λ_ _ _ _ _ _=>VO
 i:=λ_ _ _ _ _ _ _=>Nx
 c:=λ_ _ _ _ _ _ _ _ _ _=>⟨aS,λ_ _ _ _ _ _ _=>wu⟩
section
variable {n:Nat} (S:Z7 n)
include S
def VP(Γ:Gm)(X:Cx)(af:Hp)(ag:Fz)(op:BoolOp)(vs:List Expr)(p:Pos)(G:GOk Γ X af ag):PE X (.BoolOp op vs p) (tE X af ag (HR (n+1) Γ op vs)):=by
 match op,vs with
 | .And,[]=>exact aS
 | .Or,[]=>exact aS
 | .And,[a]=>exact FN (S.e Γ X af ag 0 a G)
 | .Or,[a]=>exact FN (S.e Γ X af ag 0 a G)
 | .And,a::b::r=>exact Ut (S.e Γ X af ag 0 a G) (S.b Γ X af ag .And (b::r) p G)
 | .Or,a::b::r=>exact YZ (S.e Γ X af ag 0 a G) (S.b Γ X af ag .Or (b::r) p G)
def VQ(Γ:Gm)(X:Cx)(af:Hp)(ag:Fz)(op:BoolOp)(vs:List Expr)(p:Pos)(G:GOk Γ X af ag):PW X (.BoolOp op vs p) (tT X af ag (HX (n+1) Γ op vs)):=by
 match op,vs with
 | .And,[]=>exact HQ
 | .Or,[]=>exact HQ
 | .And,[a]=>exact JS (S.t Γ X af ag a G)
 | .Or,[a]=>exact Oo (S.t Γ X af ag a G)
 | .And,a::b::r=>exact Ur (S.t Γ X af ag a G) (S.w Γ X af ag .And (b::r) p G)
 | .Or,a::b::r=>exact YY (S.t Γ X af ag a G) (S.w Γ X af ag .Or (b::r) p G)
def VR(Γ:Gm)(X:Cx)(af:Hp)(ag:Fz)(m:Nat)(es:List Expr)(G:GOk Γ X af ag):PA X es (tA X af ag (jR (n+1) Γ m es)):=by
 match es with
 | []=>exact Uv
 | e::es =>
  unfold jR;split
  ·rename_i hp;exact Pb (S.e Γ X af ag m e G) (S.a Γ X af ag m es G) (bA hp _ _)
  ·exact Nw
def VS(Γ:Gm)(X:Cx)(af:Hp)(ag:Fz)(e:Option Expr)(G:GOk Γ X af ag):PO X e (KL X af ag (Et (n+1) Γ e)):=by
 match e with
 | none=>exact Pz
 | some e=>exact PC (S.e Γ X af ag 0 e G)
def VT(Γ:Gm)(X:Cx)(af:Hp)(ag:Fz)(a:Expr)(ops:List CmpOp)(bs:List Expr)(p:Pos)(G:GOk Γ X af ag):PE X (.Compare a ops bs p) (tE X af ag (QK (n+1) Γ a ops bs)):=by
 rcases ops with _ | ⟨op,_ | ⟨xa,_ | _⟩⟩<;>rcases bs with _ | ⟨b,_ | ⟨c,_ | _⟩⟩<;>try exact aS
 ·show PE X _ (tE X af ag (ite _ _ _));split
  ·rename_i hp;split
   ·rename_i g h1;exact Uo (j5 G.un h1) (S.e Γ X af ag 0 _ G) (S.e Γ X af ag 0 _ G) (g7 hp _)
   ·exact aS
  ·exact aS
 ·show PE X _ (tE X af ag (ite _ _ _));split
  ·rename_i hp;split
   ·rename_i g g' h1 h2;exact Ks (j5 G.un h1) (j5 G.un h2) (S.e Γ X af ag 0 _ G) (S.e Γ X af ag 0 _ G) (S.e Γ X af ag 0 _ G) (g7 hp _)
   ·exact aS
  ·exact aS
def VU(Γ:Gm)(X:Cx)(af:Hp)(ag:Fz)(e:Expr)(G:GOk Γ X af ag):PT X e (tT X af ag (sN (n+1) Γ e)):=by
 have df:∀e,PT X e (tT X af ag (if AX e=true then vH (aX n Γ 0 e)else cu)):=λe=>by
  split
  ·rename_i hp;exact Uq (S.e Γ X af ag 0 _ G) λi6=>HK hp _ i6
  ·exact uj
 cases e with
 | UnaryOp op=>cases op with
  | Not=>exact Us (S.t Γ X af ag _ G)
  | _=>exact df _
 | BoolOp=>exact(S.w Γ X af ag _ _ _ G).pt
 | Compare a ops bs =>
  rcases ops with _ | ⟨op,_ | ⟨xa,_ | _⟩⟩<;>rcases bs with _ | ⟨b,_ | ⟨c,_ | _⟩⟩<;>try exact df _
  ·show PT X _ (tT X af ag (ite _ _ _));split
   ·rename_i hp;split
    ·rename_i g h1;exact Up (j5 G.un h1) (S.e Γ X af ag 0 _ G) (S.e Γ X af ag 0 _ G) (g7 hp _)
    ·exact uj
   ·exact uj
  ·show PT X _ (tT X af ag (ite _ _ _));split
   ·rename_i hp;split
    ·rename_i g g' h1 h2;exact Kt (j5 G.un h1) (j5 G.un h2) (S.e Γ X af ag 0 _ G) (S.e Γ X af ag 0 _ G) (S.e Γ X af ag 0 _ G) (g7 hp _)
    ·exact uj
   ·exact uj
 | _=>exact df _
def QQ(Γ:Gm)(X:Cx)(af:Hp)(ag:Fz)(a:Expr)(es:List Expr)(p cp:Pos)(G:GOk Γ X af ag)(hp:(a::es).all br=true)(hg:wc Γ "sorted"=true)(hb:Γ.dt.contains "sorted"=true):PE X (.Call (.Name "sorted" p) (a::es) [] cp) (tE X af ag (HV (n+1) Γ a es)):=by
 exact aS
def VV(Γ:Gm)(X:Cx)(af:Hp)(ag:Fz)(a:Expr)(es:List Expr)(p cp:Pos)(G:GOk Γ X af ag)(hp:(a::es).all br=true)(hg:wc Γ "dict"=true)(hb:Γ.dt.contains "dict"=true):PE X (.Call (.Name "dict" p) (a::es) [] cp) (tE X af ag (QP (n+1) Γ a es)):=by
 rw[iC,aH]at hp;cases es with
 | cons=>exact aS
 | nil=>exact Qi G.hd (G.iR hg) (G.dt _ hb) (S.e Γ X af ag 0 _ G) (bA hp.1 _ _)
def QR(Γ:Gm)(X:Cx)(af:Hp)(ag:Fz)(m:Nat)(a:Expr)(es:List Expr)(p cp:Pos)(G:GOk Γ X af ag)(hp:(a::es).all br=true)(hg:wc Γ "list"=true)(hb:Γ.dt.contains "list"=true):PE X (.Call (.Name "list" p) (a::es) [] cp) (tE X af ag (HW (n+1) Γ m a es)):=by
 rw[iC,aH]at hp;cases es with
 | cons=>exact aS
 | nil =>
  show PE X _ (tE X af ag (match A2 a with | some ⟨zs,_⟩=>_ | none=>LJ m (aX n Γ 0 a)))
  rcases A2 a with _ | ⟨⟨z,b,bs⟩,zp,yi,rfl⟩
  ·exact QF (G.iR hg) (G.dt _ hb) (S.e Γ X af ag 0 _ G) λ_=>bA hp.1 _ _
  ·refine pI (λhc=>?_) ?_
   ·simp only[i9,aH]at hc;obtain⟨⟨hx,g1,g2⟩,Qr⟩:=hc;have hx:=aV hx;subst hx;rw[iC,aH]at Qr;exact Vl G.hd (G.iR hg) (G.dt _ hb) (G.iR g1) (G.dt _ g2) (S.a Γ X af ag 0 _ G) (bA Qr.1 _ _) (fY Qr.2 _ _)
   ·rcases bs with _ | ⟨c,_ | _⟩
    ·exact aS
    ·refine pJ λhc=>?_
     simp only[i9,aH]at hc;obtain⟨⟨⟨hx,g1,g2⟩,p1⟩,p2⟩:=hc;have hx:=aV hx;subst hx;exact Qt G.hd (G.iR hg) (G.dt _ hb) (G.iR g1) (G.dt _ g2) (S.e Γ X af ag 0 _ G) (S.e Γ X af ag 0 _ G) (bA p1 _ _) (bA p2 _ _)
    ·exact aS
def QS(Γ:Gm)(X:Cx)(af:Hp)(ag:Fz)(a:Expr)(es:List Expr)(p cp:Pos)(G:GOk Γ X af ag)(hp:(a::es).all br=true)(hg:wc Γ "isinstance"=true)(hb:Γ.dt.contains "isinstance"=true):PE X (.Call (.Name "isinstance" p) (a::es) [] cp) (tE X af ag (HU (n+1) Γ a es)):=by
 cases es with
 | nil=>exact aS
 | cons e es=>cases e with
  | Name t=>cases es with
   | cons=>exact aS
   | nil =>
    refine pJ λhc=>?_
    unfold i9 at hc;rw[aH]at hc;rw[iC,aH]at hp;cases h1:B5 t with
    | none=>exact aS
    | some g=>exact Y4 h1 (G.iR hg) (G.dt _ hb) (G.iR hc.1) (G.dt _ hc.2) (S.e Γ X af ag 0 a G) λes=>bA hp.1 es _
  | _=>exact aS
def VW(Γ:Gm)(X:Cx)(af:Hp)(ag:Fz)(a b:Expr)(p:Pos)(G:GOk Γ X af ag):PE X (.Subscript a b p) (tE X af ag (QL (n+1) Γ a b)):=by
 show PE X _ (tE X af ag (match wt b with | some ⟨lh,_⟩=>_ | none=>_))
 rcases wt b with _ | ⟨⟨lo,hi⟩,ps,rfl⟩
 ·show PE X _ (tE X af ag (match A1 b with | some ⟨lm,_⟩=>_ | none=>_))
  rcases A1 b with _ | ⟨⟨lo,hi⟩,ps,rfl⟩
  rotate_left
  ·exact UP (S.e Γ X af ag 0 _ G) (S.l Γ X af ag _ G) (S.l Γ X af ag _ G)
  refine pJ λhp=>?_
  have gen:=λa=>Y5 (pos:=p) G.un (S.e Γ X af ag 0 a G) (S.e Γ X af ag 0 b G) (qX hp)
  cases a with
  | Name T =>
   refine pI (λhc=>?_) (gen _)
   rw[aH]at hc;cases h0:Γ.eO.lookup T with
   | some rows=>exact Ve (G.eO _ rows h0) (G.iR hc.2) (S.e Γ X af ag 0 _ G) (qX hp) (gQ hc.1).1
   | none =>
    cases h1:Γ.tabs.lookup T with
    | some rows=>exact Vf (G.tabs _ rows h1) (G.iR hc.2) (S.e Γ X af ag 0 _ G) (qX hp) (gQ hc.1).1
    | none=>exact gen _
  | _=>exact gen _
 ·exact UI (S.e Γ X af ag 0 _ G) (S.l Γ X af ag _ G) (S.l Γ X af ag _ G)
def VX(Γ:Gm)(X:Cx)(af:Hp)(ag:Fz)(tg e:Expr)(G:GOk Γ X af ag):PI X tg e (E4 X af ag (HY (n+1) Γ tg e)):=by
 have df:∀e,PI X tg e (E4 X af ag (if br e=true then AL (aX n Γ 0 e)else cu)):=λe=>by
  split
  ·exact Ha (S.e Γ X af ag 0 _ G)
  ·exact Nx
 cases e with
 | Call f as ks=>cases f with
  | Name x p =>
   rcases as with _ | ⟨a,_ | ⟨b,_ | _⟩⟩<;>rcases ks with _ | _<;>try exact df _
   ·show PI X _ _ (E4 X af ag (ite _ _ _));split
    ·rename_i hc;simp only[i9,aH]at hc;obtain⟨⟨hx,hg,hb⟩,hp⟩:=hc;have hx:=aV hx;subst hx;exact P4 <| G0 (G.iR hg) (G.dt _ hb) (S.a Γ X af ag 0 _ G) (bA hp _ _)
    ·split
     ·rename_i hc;simp only[i9,aH]at hc;obtain⟨⟨⟨hx,hg,hb⟩,hp⟩,ht⟩:=hc;have hx:=aV hx;subst hx;exact P4 <| Zj ht (G.iR hg) (G.dt _ hb) (S.e Γ X af ag 0 _ G) (bA hp _ _)
     ·exact Ha (S.e Γ X af ag 0 _ G)
   ·show PI X _ _ (E4 X af ag (ite _ _ _));split
    ·rename_i hc;simp only[i9,aH]at hc;obtain⟨⟨⟨⟨hx,hg,hb⟩,hp⟩,Qr⟩,ht⟩:=hc;have hx:=aV hx;subst hx;exact P4 <| Vy ht (G.iR hg) (G.dt _ hb) (S.e Γ X af ag 0 _ G) (S.e Γ X af ag 0 _ G) (bA hp _ _) (bA Qr _ _)
    ·exact Ha (S.e Γ X af ag 0 _ G)
  | _=>exact df _
 | _=>exact df _
def LK:CC X af ag elt gens scope p cu:=⟨aS,λ_ _ _ _ _ _ _=>wu⟩
def cI{c:Prop} [Decidable c] (h:c->CC X af ag elt gens scope p f):CC X af ag elt gens scope p (if c then f else cu):=by
 split
 ·exact h ‹_›
 ·exact LK
def VY(Γ:Gm)(X:Cx)(af:Hp)(ag:Fz)(m:Nat)(elt:Expr)(gens:List Comprehension)(scope:Scope)(p:Pos)(G:GOk Γ X af ag):CC X af ag elt gens scope p (QM (n+1) Γ m elt gens scope):=by
 rcases gens with _ | ⟨⟨tg,iter,ifs,(_ | _) | _⟩,_ | _⟩<;>try exact LK
 refine cI λhp=>?_
 cases h2:wo n (uh Γ scope) tg with
 | none=>exact LK
 | some g =>
  refine cI λhc=>?_
  have SC:=A0 G hc;have hL:=(mz hc).2.2.2;have GK:=HP G hc;have hi:=S.i Γ X af ag tg iter G;have hg:=λC s H fp=>(my (GK C s H fp af ag) n tg g h2).1
  have kg:=(my (GK 0 X.s₀ X.af [] af ag) n tg g h2).2.1;have he:=λC s H fp=>S.e _ _ _ _ (Er m) elt (GK C s H fp af ag)
  rcases ifs with _ | ⟨c,_ | _⟩
  ·exact⟨(Cc G.calm SC hi (pb1 hg he) (gP hp _)).imp λσ H Q h=>Hb kg hL h,λi x p' sp hx hl hw=>(Cd G.calm G.nd hx hl SC hi (pb1 hg he) hw (gP hp _)).imp λD σ H h=>Hb kg hL (o6 h)⟩
  ·have ht:=λC s H fp=>S.t _ _ _ _ c (GK C s H fp af ag)
   exact⟨(Cc G.calm SC hi (pb2 hg he ht) (gP hp _)).imp λσ H Q h=>Hc kg hL h,λi x p' sp hx hl hw=>(Cd G.calm G.nd hx hl SC hi (pb2 hg he ht) hw (gP hp _)).imp λD σ H h=>Hc kg hL (o6 h)⟩
  ·exact LK
def QT(Γ:Gm)(X:Cx)(af:Hp)(ag:Fz)(a:Expr)(es:List Expr)(p cp:Pos)(G:GOk Γ X af ag)(hp:(a::es).all br=true)(hg:wc Γ "spread"=true):PE X (.Call (.Name "spread" p) (a::es) [] cp) (tE X af ag (HS (n+1) Γ a es)):=by
 exact aS
def VZ(Γ:Gm)(X:Cx)(af:Hp)(ag:Fz)(m:Nat)(x:Str)(a:Expr)(es:List Expr)(p cp:Pos)(G:GOk Γ X af ag)(hp:(a::es).all br=true)(hn:iQ x=true)(hg:wc Γ x=true):PE X (.Call (.Name x p) (a::es) [] cp) (tE X af ag (QO (n+1) Γ m x a es)):=by
 have D6:=hp;rw[iC,aH]at D6;obtain⟨n1,n2,n3⟩:=gQ hn;have ha:=S.a Γ X af ag 0 (a::es) G;have h1:=bA D6.1 es X.env;have h2:=fY D6.2 X.env cp;refine pI (λhx=>?_) ?_
 ·cases aV hx;exact S.sp Γ X af ag a es p cp G hp hg
 cases hk:Γ.fns.lookup x with
 | some k =>
  refine pI (λ_=>?_) ?_
  ·obtain⟨j,f,fd,ps,F,hr,q1,q2,q3⟩:=G.fns _ k hk;exact He (Z4 F hr q3) (G.iR hg) q1 q2 ha n1 h1 h2
  ·cases hd:Γ.jB.lookup x with
   | none=>exact aS
   | some ds =>
    obtain⟨j,f,fd,ps,jA,p9,F,hr,q1,q2,r1,r2,q3⟩:=G.jB x ds k hd hk;exact He (VH F hr q3 r1 r2) (G.iR hg) q1 q2 ha n1 h1 h2
 | none=>cases hk:Γ.cls.lookup x with
  | some k=>cases m with
   | zero=>exact aS
   | succ =>
    obtain⟨j,Ca,f,fd,ps,hC,c,M,F,hr,q1,q2⟩:=G.cls _ k hk;exact(Ke (p:=p) M F hr (G.iR hg) q1 q2 .nil tK ha n1 h1 h2).imp λσ H Q h=>CD hC c h
  | none =>
   refine pJ λhb=>pI (λhx=>?_) (pI (λhx=>?_) (pI (λhx=>?_) (pI (λhx=>?_) ?_)))
   ·cases aV hx;exact S.is Γ X af ag a es p cp G hp hg hb
   ·cases aV hx;exact S.st Γ X af ag a es p cp G hp hg hb
   ·cases aV hx;exact S.d Γ X af ag a es p cp G hp hg hb
   ·cases aV hx;exact S.li Γ X af ag m a es p cp G hp hg hb
   cases hg':wq x with
   | some g=>exact QI hg' G.hd (G.iR hg) (G.dt _ hb) ha h1 h2
   | none=>exact aS
def V0(Γ:Gm)(X:Cx)(af:Hp)(ag:Fz)(m:Nat)(f a:Expr)(es:List Expr)(cp:Pos)(G:GOk Γ X af ag)(hp:(a::es).all br=true):PE X (.Call f (a::es) [] cp) (tE X af ag (QN (n+1) Γ m f a es cp)):=by
 have D6:=hp;rw[iC,aH]at D6;cases f with
 | Name=>exact pJ λhn=>pJ λhg=>S.cn Γ X af ag m _ a es _ cp G hp hn hg
 | Subscript=>exact Lk G.fns G.ns (S.e Γ X af ag 0 _ G) (S.a Γ X af ag 0 _ G) (bA D6.1 _ _) (fY D6.2 _ _)
 | Attribute o g ap =>
  refine pJ λhc=>?_
  simp only[aH,uS]at hc;show PE X _ (tE X af ag (match yf g with | some w=>_ | none=>yu (ud Γ.HJ g) Γ.call g (aX n Γ 0 o) (jR n Γ 0 (a::es))))
  cases hw:yf g with
  | none=>exact QB G.HJ (S.e Γ X af ag 0 _ G) (S.a Γ X af ag _ _ G) (j8 hc.1.1) (CG hp hc.2) hc.1.2 (bA D6.1 _ _) (fY D6.2 _ _)
  | some w=>exact Zs G.un hw (S.e Γ X af ag 0 _ G) (S.a Γ X af ag _ _ G) (j8 hc.1.1) (CG hp hc.2) hc.1.2 (bA D6.1 _ _) (fY D6.2 _ _)
 | _=>exact aS
def V6(Γ:Gm)(X:Cx)(af:Hp)(ag:Fz)(m:Nat)(e:Expr)(G:GOk Γ X af ag):PE X e (tE X af ag (aX (n+1) Γ m e)):=by
 cases e with
 | Constant c=>cases c<;>first | exact aS | exact Ul | exact YW | exact Uk | exact Um
 | Name x =>
  show PE X _ (tE X af ag (QJ Γ x));unfold QJ;split
  ·rename_i hn;split
   ·rename_i hv;split
    ·rename_i i hi;exact Uj i (Es G hn hv hi)
    ·exact aS
   ·split
    ·rename_i hg;split
     ·rename_i q hq;obtain⟨u,v,g1,g2,g3⟩:=G.cons _ q hq;exact xN (vw (G.iR hg) g1 g2 (gQ hn).1) g3
     ·exact aS
    ·exact aS
  ·exact aS
 | BinOp a op b =>
  refine pI (λhc=>?_) ?_
  ·rw[aH]at hc;obtain rfl:op=.Add:=by
    cases op<;>first | rfl | cases hc.2
   exact Qm (S.e Γ X af ag 0 _ G) (S.e Γ X af ag 0 _ G)
  show PE X _ (tE X af ag (match LB op with | some g=>op2 g (aX n Γ 0 a) (aX n Γ 0 b) | none=>cu))
  cases h1:LB op with
  | none=>exact aS
  | some=>exact YX (Hz h1) (S.e Γ X af ag 0 _ G) (S.e Γ X af ag 0 _ G)
 | UnaryOp op=>cases op with
  | Not=>exact Uu (S.e Γ X af ag 0 _ G)
  | USub=>exact UM (S.e Γ X af ag 0 _ G)
  | _=>exact aS
 | BoolOp=>exact S.b Γ X af ag _ _ _ G
 | Compare=>exact S.k Γ X af ag _ _ _ _ G
 | IfExp=>exact Y0 (S.t Γ X af ag _ G) (S.e Γ X af ag m _ G) (S.e Γ X af ag m _ G)
 | Tuple=>exact Uw (S.a Γ X af ag m _ G)
 | List=>cases m with
  | zero=>exact Ux (S.a Γ X af ag 0 _ G)
  | succ=>exact Pd (S.a Γ X af ag _ _ G)
 | Dict ks vs=>match ks,vs with
  | [],[]=>exact Vd _
  | [some k],[v]=>exact QE G.un (S.e Γ X af ag 0 k G) (S.e Γ X af ag 0 v G)
  | [],_::_=>exact aS
  | [none],_=>exact aS
  | [some _],[]=>exact aS
  | [some _],_::_::_=>exact aS
  | none::_::_,[]=>exact aS
  | none::_::_,_::_=>exact aS
  | some _::_::_,[]=>exact aS
  | some _::_::_,_::_=>exact aS
 | Subscript=>exact S.x Γ X af ag _ _ _ G
 | ListComp=>exact(S.c Γ X af ag m _ _ _ _ G).1
 | Attribute =>
  show PE X _ (tE X af ag (ite _ _ _));split
  ·rename_i hb;exact Vg (S.e Γ X af ag 0 _ G) (j8 hb)
  ·exact aS
 | Call f as ks=>cases as with
  | cons=>cases ks with
   | cons=>exact aS
   | nil =>
    show PE X _ (tE X af ag (ite _ _ _));split
    ·rename_i hp;exact S.f Γ X af ag m _ _ _ _ G hp
    ·exact aS
  | nil=>cases ks with
   | cons=>cases f<;>exact aS
   | nil=>cases f with
    | Attribute =>
     show PE X _ (tE X af ag (ite _ _ _));split
     ·rename_i hc;rw[aH]at hc;split
      ·rename_i hx;have hx:=aV hx;subst hx;exact QD (S.e Γ X af ag 0 _ G) (j8 hc.1) hc.2
      split
      ·rename_i w hw;exact Va hw (S.e Γ X af ag 0 _ G) (j8 hc.1) hc.2
      ·exact LH G.HJ (S.e Γ X af ag 0 _ G) (j8 hc.1) hc.2
     ·exact aS
    | Name C =>
     refine pJ λhc=>?_
     rw[aH]at hc;obtain⟨n1,n2,n3⟩:=gQ hc.1
     ·cases hk:Γ.cls.lookup C with
      | none=>exact aS
      | some k =>
       obtain⟨j,Ca,f,fd,ps,hC,c,M,F,hr,q1,q2⟩:=G.cls _ k hk;exact(HE M F hr (G.iR hc.2) q1 q2 .nil tK n1).imp λσ H Q h=>HF hC c h
    | _=>exact aS
 | _=>exact aS
end
theorem snd:∀n:Nat,Z7 n
 | 0=>HZ
 | n+1 =>
  have S:=snd n
  ⟨V6 S,V0 S,VZ S,QT,QQ,VV S,QR S,QS S,VT S,VW S,VU S,VP S,VQ S,VR S,VS S,VX S,VY S⟩
structure Z8 (Γ:Gm) (X:Cx) (af:Hp) (ag:Fz):Prop extends GOk Γ X af ag where
 never:PassesOwn (model X.prog X.w) X.A X.env X.xe
noncomputable def H0:Expr->Bool
 | .ListComp _ _ _ _=>true
 | _=>false
def A3:G2:=nD (λ_ _=>true) λi j=>.int (i+j)
def A4:Operator->Option G2
 | .Add=>some A3
 | _=>none
def sI{c:Prop} [Decidable c] (h:c->PS X e (tS X af ag f)):PS X e (tS X af ag (if c then f else cu)):=by
 split
 ·exact h ‹_›
 ·exact gu
section
variable {Γ:Gm} {X:Cx} {x:Str} {p sp:Pos} {e:Expr} {op:Operator} {i:Nat} {af:Hp} {ag:Fz} {fe:Gx PV} {g:G2}
def CH(h:A4 op=some g):oY X (inplaceOp op) g:=by
 cases op<;>cases h
 exact eY (tN J4) (λ_ _ _=>trivial) λ_ _ _=>aE.mpr rfl
def LL{st:b8}(h:rd i st=some r):∃p,st.ρ[i]?=some (some p)/\r=(.ok p,st):=by
 obtain⟨p,e1,e2⟩:=aQ h;cases z:st.ρ[i]? with
 | none=>rw[z]at e1;cases e1
 | some o =>
  rw[z]at e1;cases o with
  | none=>cases e1
  | some p'=>cases e1;exact⟨p,rfl,e2.symm⟩
def V7(ho:oY X (inplaceOp op) g)(he:PE X e (tE X af ag fe))(hN:X.N.Nodup)(hi:X.N[i]?=some x)(hx:MN X.env.scope x)(hf:X.fn x=true\/X.env.scope.names.lookup x=some .local):PS X (.AugAssign (.Name x p) op e sp) (tS X af ag (lZ (op2 g (rd i) fe) (dh i))):=by
 refine(OB hN hi hx he (λah s σ H x y v u Q I r1 r2 t=>ho ah s σ H x y v u Q I r1 r2 t) hf).imp λD σ H h=>?_
 obtain⟨F,st,R,h⟩:=o6 h;obtain⟨r,e1,e2⟩:=At.bnd h;obtain⟨q,e3,rfl⟩:=LL e1;obtain⟨v,h3,h4⟩:=R.l.av i q e3;refine⟨v,h3,F,st,R,Tx.bnd (e2) λy w F1 st1 H1 R1 g1 b1 h1=>?_⟩
 obtain⟨z,hz,k⟩:=h1.hp;exact⟨af,ag,F1,st1,σ,q,y,z,hz,R1,h4.mono g1,b1,k⟩
def yv(G:GOk Γ X af ag)(hs:slot Γ x=some i)(hx:SF Γ x=true)(he:PE X e (tE X af ag fe))(hsw:swapsWith e (some (.Name x p)) sp.line X.env=pure false):PS X (.Assign [.Name x p] e sp) (tS X af ag (lZ fe (dh i))):=by
 obtain⟨h1,h2⟩:=G.QH hx;exact(OA G.nd (G.uf hs) h1 he hsw h2).imp λD σ H h=>o6 h
def A5 :
  (swapsWith (.ListComp elt gens scope cp) (some (.Name x p)) sp.line X.env=pure true/\X.env.scope.names.lookup x=some .local)\/swapsWith (.ListComp elt gens scope cp) (some (.Name x p)) sp.line X.env=pure false:=by
 have e:swapsWith (.ListComp elt gens scope cp) (some (.Name x p)) sp.line X.env=pure (X.env.blockKind==.function&&X.env.kindOf x==some .local&&p.line==(Expr.ListComp elt gens scope cp).pos.line&&!(scope.names.any fun(n,k)=>n==x&&(k==.local || k==.cell))):=rfl
 rw[e];cases hb:(X.env.blockKind==.function&&X.env.kindOf x==some .local&&p.line==(Expr.ListComp elt gens scope cp).pos.line&&!(scope.names.any fun(n,k)=>n==x&&(k==.local || k==.cell)))with
 | true =>
  refine .inl ⟨rfl,?_⟩;simp only[aH]at hb;exact aV hb.1.1.2
 | false=>exact .inr rfl
def Eu(h:(jP e || H0 e)=true)(l:Nat)(env:Env):swapsWith e (some (.Attribute a x p)) l env=pure false:=by
 cases e<;>first | rfl | cases h
def Ew{a x:Expr}(h:(jP e || H0 e)=true)(l:Nat)(env:Env):swapsWith e (some (.Subscript a x p)) l env=pure false:=by
 cases e<;>first | rfl | cases h
def A6(h:o9 k=true)(env:Env)(v:Value):assign (.Subscript o k p) env v=(do
   let ov <-holding [v] (eval o env)
   let iv <-holding [v,ov] (eval k env)
   standAt p
   holding [v,ov,iv] (setItem ov iv v)
   release [v,ov,iv] []):=by
 cases k<;>first | rfl | cases h
def A7(env:Env):swappedStores [.Subscript o k p] e env=pure none:=by
 cases e<;>rfl
end
def WHL:Nat:=8000000
def isD(Γ:Gm):Expr->Bool
 | .Name x _=>md Γ x==10
 | _=>false
noncomputable def RET:Str:="[return]"
def asName(n:Nat)(Γ:Gm)(x:Str)(e:Expr):Gx dJ:=if(SF Γ x&&(jP e || H0 e))=true then(match slot Γ x with | some i=>lZ (aX n Γ (md Γ x) e) (dh i) | none=>cu)else cu
noncomputable def Ny(n:Nat)(Γ:Gm)(tg e:Expr):Gx dJ:=match tg with
 | .Name x _=>asName n Γ x e
 | .Tuple ts k p=>if CF e=true then(match wo n Γ (.Tuple ts k p)with | some g=>lZ (aX n Γ 0 e) g.1 | none=>cu)else cu
 | .Subscript o k _=>if(o9 k&&(jP e || H0 e))=true then Qd (aX n Γ (VM Γ o) e) (aX n Γ 0 o) (aX n Γ 0 k)else cu
 | .Attribute o f _=>if(jP e || H0 e)=true then Lm Γ.clss Γ.flds f (aX n Γ (md Γ f) e) (aX n Γ 0 o)else cu
 | _=>cu
noncomputable def Nz(n:Nat)(Γ:Gm)(tg:Expr)(op:Operator)(e:Expr):Gx dJ:=match tg with
 | .Name x _=>if SF Γ x=true then(match slot Γ x,A4 op with | some i,some g=>lZ (op2 g (rd i) (aX n Γ 0 e)) (dh i) | _,_=>cu)else cu
 | .Attribute o f _=>(match A4 op with | some g=>HG Γ.clss Γ.flds f g (aX n Γ 0 o) (aX n Γ 0 e) | none=>cu)
 | _=>cu
mutual
noncomputable def QU:Nat->Gm->Stmt->Gx dJ
 | 0,_,_=>cu
 | n+1,Γ,st=>match st with
  | .Pass _=>cD .nx
  | .Break _=>cD .bk
  | .Continue _=>cD .ct
  | .Return none _=>cD (.rt .aL)
  | .Return (some e) _=>if md Γ RET==7 then Gz (P6 (aX n Γ 1 e))else Gz (aX n Γ (md Γ RET) e)
  | .If c a b _=>ow (sN n Γ c) (ja n Γ a) (ja n Γ b)
  | .While c b [] _=>kZ (sN n Γ c) (ja n Γ b) WHL
  | .For tg iter body [] _=>if br iter=true then(match wo n Γ tg with | some g=>if isD Γ iter=true then cu else Lg (HY n Γ tg iter) g.1 (ja n Γ body) | none=>cu)else cu
  | .Expr e _=>if jP e=true then BV (aX n Γ 0 e)else cu
  | .Assign [tg] e _=>Ny n Γ tg e
  | .AugAssign tg op e _=>Nz n Γ tg op e
  | .Try body (_::_) [] [] _=>if(Γ.Eo.isNone&&Γ.Ep.isNone)=true then En (ja n Γ body)else cu
  | _=>cu
termination_by structural n=>n
noncomputable def ja:Nat->Gm->List Stmt->Gx dJ
 | 0,_,_=>cu
 | n+1,Γ,[]=>cD .nx
 | n+1,Γ,[st]=>QU n Γ st
 | n+1,Γ,st::SG=>qF (QU n Γ st) (ja n Γ SG)
termination_by structural n=>n
end
structure Z9 (n:Nat):Prop where
 s:∀Γ X af ag st,Z8 Γ X af ag->PS X st (tS X af ag (QU n Γ st))
 ss:∀Γ X af ag SG,Z8 Γ X af ag->PSs X SG (tS X af ag (ja n Γ SG))
def QV:PSs X s (tS X af ag cu):=λ_ _ _ _ _ _ ⟨F,st,R,r,z,_⟩=>by cases z
def QW(G:GOk Γ X af ag):PS X (.Assign [tg] e sp) (tS X af ag (Ny n Γ tg e)):=by
 have S:=snd n;cases tg with
 | Name x p =>
  refine sI λhc=>?_
  rw[aH]at hc;cases hi:slot Γ x with
  | none=>exact gu
  | some i =>
   rcases Bool.or_eq_true _ _▸hc.2 with hn | hl
   ·exact yv G hi hc.1 (S.e Γ X af ag _ _ G) (jQ hn _ _ _)
   ·cases e<;>try (exact absurd hl cw)
    rcases A5 with⟨z,hl⟩ | z
    ·cases n with
     | zero=>exact wu
     | succ n=>exact((snd n).c Γ X af ag _ _ _ _ _ G).2 i x p sp (G.uf hi) hl z
    ·exact yv G hi hc.1 (S.e Γ X af ag _ _ G) z
 | Tuple ts k tp =>
  refine sI λhc=>?_
  cases h1:wo n Γ (.Tuple ts k tp)with
  | none=>exact gu
  | some g =>
   obtain⟨g1,g2,g3,g4⟩:=my G n _ g h1;refine UA (S.e Γ X af ag _ _ G) g1 (jQ (wj hc) (some (Expr.Tuple ts k tp)) sp.line X.env) ?_ (g3 _);cases e<;>first | rfl | cases hc
 | Subscript o k tp =>
  refine sI λhc=>?_
  rw[aH]at hc;exact Vc G.un (S.e Γ X af ag _ _ G) (S.e Γ X af ag _ _ G) (S.e Γ X af ag _ _ G) (A6 hc.1 _) (Ew (a:=o) (x:=k) (p:=tp) hc.2 sp.line X.env) (A7 _)
 | Attribute=>exact sI λhc=>Vh G.Nv (S.e Γ X af ag _ _ G) (S.e Γ X af ag _ _ G) (Eu hc _ _)
 | _=>exact gu
def QX(G:GOk Γ X af ag):PS X (.AugAssign tg op e sp) (tS X af ag (Nz n Γ tg op e)):=by
 cases tg with
 | Name x p =>
  refine sI λhc=>?_
  cases h1:slot Γ x with
  | none=>exact gu
  | some i=>cases h2:A4 op with
   | none=>exact gu
   | some g =>
    obtain⟨l1,l2⟩:=G.QH hc;exact V7 (CH h2) ((snd n).e Γ X af ag _ _ G) G.nd (G.uf h1) l1 l2
 | Attribute o f p =>
  cases h2:A4 op with
  | none=>show PS X _ (tS X af ag (match A4 op with | some g=>HG Γ.clss Γ.flds f g (aX n Γ 0 o) (aX n Γ 0 e) | none=>cu));rw[h2];exact gu
  | some g=>show PS X _ (tS X af ag (match A4 op with | some g=>HG Γ.clss Γ.flds f g (aX n Γ 0 o) (aX n Γ 0 e) | none=>cu));rw[h2];exact QC G.Nv ((snd n).e Γ X af ag _ _ G) ((snd n).e Γ X af ag _ _ G) (CH h2)
 | _=>exact gu
theorem sns:∀n:Nat,Z9 n
 | 0=>⟨λ_ _ _ _ _ _=>gu,λ_ _ _ _ _ _=>QV⟩
 | n+1=>by
  have T:=sns n;have S:=snd n;refine⟨λΓ X af ag st G=>?_,λΓ X af ag SG G=>?_⟩
  ·cases st with
   | Pass=>exact Ph
   | Break=>exact Kw
   | Continue=>exact Pj
   | Return e=>cases e with
    | none=>exact Pm
    | some e =>
     show PS X _ (tS X af ag (ite _ _ _));split
     ·exact MZ (U5 (S.e Γ X af ag _ _ G.toGOk))
     ·exact MZ (S.e Γ X af ag _ _ G.toGOk)
   | If=>exact Y1 (S.t Γ X af ag _ G.toGOk) (T.ss Γ X af ag _ G) (T.ss Γ X af ag _ G)
   | While c b o=>cases o with
    | nil=>exact Kz WHL G.never (S.t Γ X af ag _ G.toGOk) (T.ss Γ X af ag _ G)
    | cons=>exact gu
   | For tg iter body o=>cases o with
    | cons=>exact gu
    | nil =>
     refine sI λhp=>?_
     cases h1:wo n Γ tg with
     | none=>exact gu
     | some g =>
      show PS X _ (tS X af ag (ite _ _ _));split
      ·exact gu
      ·exact P5 G.never G.calm (S.i Γ X af ag _ _ G.toGOk) (my G.toGOk n _ g h1).1 (T.ss Γ X af ag _ G) (gP hp _)
   | Expr=>exact sI λhc=>Pn (S.e Γ X af ag _ _ G.toGOk) (jQ hc _ _ _)
   | Assign ts=>rcases ts with _ | ⟨_,_ | _⟩<;>first | exact QW G.toGOk | exact gu
   | AugAssign=>exact QX G.toGOk
   | Try body hs el iJ =>
    rcases hs with _ | _<;>rcases el with _ | _<;>rcases iJ with _ | _<;>try exact gu
    exact sI λhc=>VG (T.ss Γ X.Sq af ag body ⟨G.toGOk.Sq hc,λ_ _ z=>False.elim z⟩)
   | _=>exact gu
  ·rcases SG with _ | ⟨st,_ | _⟩
   ·exact Pe
   ·exact Pf (T.s Γ X af ag st G)
   ·exact Kv (T.s Γ X af ag st G) (T.ss Γ X af ag _ G)
def LM{P:Program}{w:World}{K:W.Frag}{mg:Str->Option Value}{base:Heap}{x qual:Str}{st:Stmt}{f:Addr}{fd:FuncData}{dV:Value}{N ps:List Str}{k:Nat}{sp:Sp}(F:sE K x qual st f fd dV)(S:cN N ps (aw st))(len:∀vs H Q E,sp vs H Q E->vs.length=ps.length)
  (hbody:∀(cV:Value) (A:Around) (aC:List Env) (s:Shared) (H:Hp) (vs:List V) (Q:VK) (E:XK),vV K f cV->c7 k (A.deeper (envOfC qual (aw st) s.heap.objs.size f cV))->sp vs H Q E ->
   ∃t,PSs (fq (ik P w) P w K mg base N qual (aw st) f cV A aC s H E) (cj st) t/\t {nx:=λ_ H'=>Q .aL H',rt:=Q} (start N vs) H):FnOk P w K mg base (ik P w) (k+1) f fd ps sp:=by
 obtain⟨oc,od,kV,doc,pm,an,cV,ct,p8,rfl,lk,w6⟩:=F.ex;exact MU lk w6 S len λA aC s H vs Q E hr MV=>hbody cV A aC s H vs Q E ⟨oc,od,_,p8,lk,rfl⟩ hr MV
def QY{P:Program}{w:World}{K:W.Frag}{mg:Str->Option Value}{base:Heap}{x qual:Str}{st:Stmt}{f:Addr}{fd:FuncData}{N ps:List Str}{k:Nat}{fb:Gx dJ}{dV:Value}(F:sE K x qual st f fd dV)(S:cN N ps (aw st))
  (hbody:∀(cV:Value) (A:Around) (aC:List Env) (s:Shared) (H:Hp) (E:XK),vV K f cV->c7 k (A.deeper (envOfC qual (aw st) s.heap.objs.size f cV))->∀(af:Hp) (ag:Fz),
   PSs (fq (ik P w) P w K mg base N qual (aw st) f cV A aC s H E) (cj st) (tS (fq (ik P w) P w K mg base N qual (aw st) f cV A aC s H E) af ag fb)):FnOk P w K mg base (ik P w) (k+1) f fd ps (tY K ps.length (gW fb N.length)):=by
 refine LM F S (by rintro vs H Q E ⟨_,_,_,_,_,_,_,_,b,hl,_⟩;rw[<-b.length];exact hl) λcV A aC s H vs Q E Xz hr z9=>?_
 obtain⟨af,F,h,as,r,h',C,full,b,hl,hf,res⟩:=z9;refine⟨_,hbody cV A aC s H E Xz hr af F,F,⟨gk N.length as,h⟩,⟨C,yc b⟩,?_⟩;obtain⟨q,e1,e2⟩:=aO hf;refine⟨q,e1,?_⟩;rcases q with⟨f | ⟨m,c⟩,st⟩
 ·cases f with
  | rt=>cases e2;exact λv F' H' C' g b'=>res v F' H' C' b'
  | nx=>cases e2;exact λF' bF H' R g=>res .aL F' H' R.c (cW.mpr rfl)
  | _=>cases e2
 ·cases e2;cases m with
  | true=>exact λF' bF H' ah s1 h1 a cls vs R sf I hc hm=>Co I hm (Cp full R.c) (res cls F' H' R.c hc)
  | false=>exact λbF ah H1 s1 e s' I h=>yb I h (by rintro cls H2 ⟨hc,F',R,sf⟩;exact⟨Cp full R.c,res cls F' H2 R.c hc⟩)
def A8:Nat:=120
abbrev CT:=Str->j7
noncomputable def noFn:CT:=λ_ _ _=>none
def LN(P:Pg):List (Str×Nat):=P.cls.map λd=>(d.1,(params d.2).length)
def V8(P:Pg)(x:Str)(st:Stmt)(cls:List (Str×Nat))(make:CT)(Eo:Option ((PV->Gx PV)->Nat->j7))(Ep:Option (Nat×(PV->Gx PV)))(c:CT):Gm where
 sc:=(aw st).names
 N:=bR st
 own:=true
 fns:=P.defs.map λd=>(d.1,(params d.2).length)
 call:=c
 cons:=P.cons
 dt:=P.dt
 tabs:=P.tabs
 eO:=P.eO
 cls:=cls
 make:=make
 clss:=P.cls.map (·.1)
 flds:=P.flds
 S5:=(P.S5.lookup x).getD []
 Eo:=Eo
 Ep:=Ep
 HJ:=P.gH.map λd=>((d.2.1,d.2.2.1),(d.1,(params d.2.2.2).length))
 jB:=P.jB
 xo:=P.xo
def rdI(P:Pg)(C:Str)(st:Stmt)(c:CT):Gx dJ:=ja A8 (V8 P C st [] noFn none none c) (cj st)
def SH(P:Pg)(c:CT):CT:=λC=>match P.cls.lookup C with | some st=>gW (rdI P C st c) (bR st).length | none=>λ_ _=>none
noncomputable def V9(P:Pg)(x:Str)(c:CT):Option ((PV->Gx PV)->Nat->j7):=none
def rdF(P:Pg)(x:Str)(st:Stmt)(c:CT):Gx dJ:=ja A8 (V8 P x st (LN P) (SH P c) (V9 P x c) none c) (cj st)
noncomputable def kY(P:Pg)(x:Str):Option Stmt:=match P.defs.lookup x with | some st=>some st | none=>(P.gH.lookup x).map (·.2.2)
def run(P:Pg):Nat->CT
 | 0=>noFn
 | k+1=>λx=>match kY P x with | some st=>gW (rdF P x st (run P k)) (bR st).length | none=>λ_ _=>none
def QZ{P:Pg}{k:Nat}{x:Str}{st:Stmt}(h:kY P x=some st):run P (k+1) x=gW (rdF P x st (run P k)) (bR st).length:=by
 show(match kY P x with | some st=>gW (rdF P x st (run P k)) (bR st).length | none=>λ_ _=>none)=_
 rw[h]
theorem g8{α β:Type}(g:α->β)(x:Str):∀l:List (Str×α),(l.map λd=>(d.1,g d.2)).lookup x=(l.lookup x).map g
 | []=>rfl
 | (n,a)::r=>by
  rw[aP,dv,dv];cases x==n with
  | true=>rfl
  | false=>exact g8 g x r
section
variable {prog:Program} {w:World} {K:W.Frag} {mg:Str->Option Value} {base:Heap}
structure oH (P:Pg) (w:World) (K:W.Frag) (mg:Str->Option Value):Prop where
 fns:∀x st,P.defs.lookup x=some st->∃f fd dV,sE K x x st f fd dV/\cM K fd (params st) []/\mg x=some (.ref f)/\cN (bR st) (params st) (aw st)/\∀ds,P.jB.lookup x=some ds->∃jA p9,Vals jA p9/\(∀F,ay K F ds jA)/\cM K fd (params st) p9
 gH:∀d∈P.gH,∃Ca f fd dV,ClsAt K d.2.1 (.ref Ca)/\Fg K Ca d.2.2.1 f/\sE K d.2.2.1 d.1 d.2.2.2 f fd dV/\cM K fd (params d.2.2.2) []/\cN (bR d.2.2.2) (params d.2.2.2) (aw d.2.2.2)/\kY P d.1=some d.2.2.2
 xo:∀C,P.xo.contains C=true->∃Ca,ClsAt K C (.ref Ca)/\sy K Ca/\XY K Ca/\mg C=some (.ref Ca)
 cons:∀x p,P.cons.lookup x=some p->∃u v,mg x=some u/\RelV v u/\∀F,bj K F p v
 dt:∀x,P.dt.contains x=true->mg x=none
 tabs:∀T rows,P.tabs.lookup T=some rows->Cq K mg w.params T rows
 eO:∀T rows,P.eO.lookup T=some rows->vW K mg w.params T rows
 ns:∀x a,W.nsIn K mainGlobals x=some (some (.ref a))->mg x=some (.ref a)
 Nv:yh K (P.cls.map (·.1)) P.flds
 cls:∀C st,P.cls.lookup C=some st->∃Ca f fd,ClsAt K C (.ref Ca)/\sy K Ca/\Mk K Ca f/\mg C=some (.ref Ca)/\MH K "__init__" (C++".__init__") st f fd/\cM K fd (params st) []/\cN (bR st) (params st) (aw st)
def FR(P:Pg)(prog:Program)(w:World)(K:W.Frag)(mg:Str->Option Value)(base:Heap)(k:Nat):Prop:=∀(x nm q:Str) (st:Stmt) (f:Addr) (fd:FuncData) (dV:Value),kY P x=some st->sE K nm q st f fd dV->cN (bR st) (params st) (aw st) ->
 FnOk prog w K mg base (ik prog w) (3*k) f fd (params st) (tY K (params st).length (run P k x))
def qZ{P:Pg}{x:Str}{st:Stmt}(h:P.defs.lookup x=some st):kY P x=some st:=by
 unfold kY;rw[h]
section
variable {P:Pg} (O:oH P w K mg) {k:Nat} (ih:FR P prog w K mg base k)
include O ih
def Wa{X:Cx}(h1:X.prog=prog)(h2:X.w=w)(h3:X.K=K)(h4:X.mg=mg)(h5:X.base=base):VL X (3*k) (P.defs.map λd=>(d.1,(params d.2).length)) (run P k):=λy n hy=>by
 subst h1 h2 h3 h4 h5;rw[g8 (λst=>(params st).length)]at hy
 obtain⟨st',h1,h2⟩:=aQ hy;subst h2;obtain⟨f',E5,dV,F1,B1,m1,S1,_⟩:=O.fns y st' h1;exact⟨3*k,f',E5,params st',aA _,ih y y y st' f' E5 dV (qZ h1) F1 S1,m1,F1.kp,B1⟩
def Wb{X:Cx}(h1:X.prog=prog)(h2:X.w=w)(h3:X.K=K)(h4:X.mg=mg)(h5:X.base=base)(hr:c7 (3*k) X.A):Nt X (P.defs.map λd=>(d.1,(params d.2).length)) (run P k) P.jB:=λy ds n hd hy=>by
 subst h1 h2 h3 h4 h5;rw[g8 (λst=>(params st).length)]at hy
 obtain⟨st',h1,h2⟩:=aQ hy;subst h2;obtain⟨f',E5,dV,F1,B1,m1,S1,D1⟩:=O.fns y st' h1;obtain⟨jA,p9,d1,d2,d3⟩:=D1 ds hd;exact⟨3*k,f',E5,params st',jA,p9,ih y y y st' f' E5 dV (qZ h1) F1 S1,hr,m1,F1.kp,d1,d2,d3⟩
def Wc{X:Cx}(h1:X.prog=prog)(h2:X.w=w)(h3:X.K=K)(h4:X.mg=mg)(h5:X.base=base)(hr:c7 (3*k) X.A):wa X (P.gH.map λd=>((d.2.1,d.2.2.1),(d.1,(params d.2.2.2).length))) (run P k):=λC m y hy=>by
 subst h1 h2 h3 h4 h5;obtain⟨d,hd,e⟩:=bZ.mp hy;cases e;obtain⟨Ca,f',E5,dV,c1,M1,F1,B1,S1,L1⟩:=O.gH d hd;exact⟨3*k,f',E5,params d.2.2.2,Ca,c1,M1,ih d.1 d.2.2.1 d.1 d.2.2.2 f' E5 dV L1 F1 S1,hr,B1⟩
def NA{st:Stmt}{x q:Str}{f:Addr}{cV:Value}{A:Around}{aC:List Env}{s:Shared}{H af:Hp}{ag:Fz}{E:XK}{cls:List (Str×Nat)}{make:CT}{Eo:Option ((PV->Gx PV)->Nat->j7)}{Ep:Option (Nat×(PV->Gx PV))}{j:Nat}(S:cN (bR st) (params st) (aw st))
  (hr:c7 j (A.deeper (envOfC q (aw st) s.heap.objs.size f cV))) (hj:3*k<=j) (hcl:∀C n,cls.lookup C=some n->∃k' Ca f' fd ps,ClsAt K C (.ref Ca)/\sy K Ca/\Mk K Ca f'/\FnOk prog w K mg base (ik prog w) k' f' fd ps (tY K n (make C))/\c7 (k'+1) (A.deeper (envOfC q (aw st) s.heap.objs.size f cV))/\mg C=some (.ref Ca)/\cM K fd ps [])
  (aac:∀rs,Eo=some rs->Nu (V8 P x st cls make Eo Ep (run P k)) (fq (ik prog w) prog w K mg base (bR st) q (aw st) f cV A aC s H E) rs)
  (aad:∀n ω,Ep=some (n,ω)->Hl (fq (ik prog w) prog w K mg base (bR st) q (aw st) f cV A aC s H E) af ag n ω) :
  Z8 (V8 P x st cls make Eo Ep (run P k)) (fq (ik prog w) prog w K mg base (bR st) q (aw st) f cV A aC s H E) af ag:=by
 refine⟨⟨rfl,rfl,S.nd,S.kind,rfl,hr.hd,?_,λ_ _=>rfl,λy n hy=>?_,O.cons,O.dt,O.tabs,O.eO,O.ns,O.Nv,hcl,aac,aad,Wc (X:=fq (ik prog w) prog w K mg base (bR st) q (aw st) f cV A aC s H E) O ih rfl rfl rfl rfl rfl (hr.mono hj),Wb (X:=fq (ik prog w) prog w K mg base (bR st) q (aw st) f cV A aC s H E) O ih rfl rfl rfl rfl rfl (hr.mono hj),O.xo⟩,PassesOwn.leaving⟩
 ·have:=hr.un;show(A.deeper _).units+1150<cLine
  lia
 ·obtain⟨i,f',E5,ps,h1,h2,h3,h4,h5⟩:=Wa (X:=fq (ik prog w) prog w K mg base (bR st) q (aw st) f cV A aC s H E) O ih rfl rfl rfl rfl rfl y n hy;exact⟨i,f',E5,ps,h2,hr.mono (aR h1 hj),h3,h4,h5⟩
def H9{C:Str}{st:Stmt}{f:Addr}{fd:FuncData}(h:P.cls.lookup C=some st)(F:MH K "__init__" (C++".__init__") st f fd)(S:cN (bR st) (params st) (aw st)):FnOk prog w K mg base (ik prog w) (3*k+1) f fd (params st) (tY K (params st).length (SH P (run P k) C)):=by
 have e:SH P (run P k) C=gW (rdI P C st (run P k)) (bR st).length:=by
  unfold SH;rw[h]
 rw[e];exact P9 F S λcV A aC s H E _ hr af ag=>(sns A8).ss _ _ af ag _ (NA O ih S hr (aA _) (λ_ _ z=>by cases z) (λ_ z=>by cases z) λ_ _ z=>by cases z)
end
theorem Ia{P:Pg}(O:oH P w K mg)(hB:P.sF≠[]->Gp mg base):∀(k:Nat),FR P prog w K mg base k
 | 0=>λx nm q st f fd dV h F S=>by
  have no:∀vs H Q E,¬tY K (params st).length (run P 0 x) vs H Q E:=λvs H Q E ⟨_,_,_,_,_,_,_,_,_,_,z,_⟩=>by cases z
  exact⟨λvs H Q E h=>absurd h (no vs H Q E),λA aC s H args us vs Q E _ _ _ _ h=>absurd h (no vs H Q E)⟩
 | k+1=>λx nm q st f fd dV h F S=>by
  have ih:=Ia (P:=P) O hB k;rw[QZ h];refine QY (k:=3*k+2) F S λcV A aC s H E Xz hr af ag=>(sns A8).ss _ _ af ag _ (NA O ih S hr (zO _ _) (λC n hy=>?_) (λrs e=>by cases e) λ_ _ z=>by cases z)
  unfold LN at hy;rw[g8 (λst=>(params st).length)]at hy
  obtain⟨st',h1,h2⟩:=aQ hy;subst h2;obtain⟨Ca,f',E5,a,c,M,m1,F1,B1,S1⟩:=O.cls C st' h1;exact⟨3*k+1,Ca,f',E5,params st',a,c,M,H9 O ih h1 F1 S1,hr,m1,B1⟩
def pd(ns:List Int):PV:=.lst (ns.map .int)
theorem yw{F:Fz}:∀ns:List Int,ay K F (ns.map .int) (ns.map V.int)
 | []=>.nil
 | n::r=>.cons (aE.mpr rfl) (yw r)
end
theorem fN{α β:Type} [BEq α] [LawfulBEq α] {k:α} {v:β}:∀{l:List (α×β)},l.lookup k=some v->(k,v)∈l
 | [],h=>by cases h
 | (a,b)::l,h=>by
  rw[dv]at h;cases z:k==a with
  | true =>
   rw[z]at h;cases h;rw[aV z];exact du
  | false =>
   rw[z]at h;exact cG _ (fN h)
def Dr.at{K:W.Frag}{h:Heap}{mg:Str->Option Value}{P:Params}{T:Str}{rows:List (Str×Str)}(x:Dr K P T rows)(X:K.In h)(G:h.Ns mainGlobals mg):Cq K mg P T rows:=by
 obtain⟨a,es,n,h1,h2,h3,h4⟩:=x;refine⟨a,es,n,W.mg_of X G h1,h2,h3,λk fn e=>?_⟩
 obtain⟨f,h5,h6⟩:=h4 (k,fn) (fN e);exact⟨f,h5,W.mg_of X G h6,h6⟩
def xp.at{K:W.Frag}{h:Heap}{mg:Str->Option Value}{P:Params}{T:Str}{rows:List (Str×PV)}(x:xp K P T rows)(X:K.In h)(G:h.Ns mainGlobals mg):vW K mg P T rows:=by
 obtain⟨a,es,n,h0,h1,h2,h3,h4⟩:=x;exact⟨a,es,n,h0,W.mg_of X G h1,h2,h3,λk p e=>h4 (k,p) (fN e)⟩
def Fj.at{K:W.Frag}{h base:Heap}{mg:Str->Option Value}(b:Fj K)(X:K.In h)(G:h.Ns mainGlobals mg)(Y:K.In base):Gp mg base :=
 let ⟨bm,o,h1,h2,h3,h4,h5⟩:=b;⟨bm,o,W.mg_of X G h1,h2,h3,Y _ _ h4,h5⟩
def yx(K:W.Frag):List (Addr×Str):=dI.filterMap λx=>(W.tabIn K x).map λcT=>(cT.2,JP x)
def Ex(K:W.Frag):(yx K).map (·.1)=dI.filterMap λx=>(W.tabIn K x).map (·.2):=by
 unfold yx;rw[List.map_filterMap]
 congr 1
 funext x
 cases W.tabIn K x<;>rfl
def lI.tabs{K:W.Frag}{h:Heap}(t:lI K h)(X:K.In h):(∀b q,(yx K).lookup b=some q->h.get? b=some {cls:=.none,data:=.fields #[]}/\isCodeTable h b/\K.lookup b=none)/\∀H:Hp,(∀b q,(yx K).lookup b=some q->H b=some (.zZ q))->qg K H:=by
 refine⟨λb q e=>?_,λH hH x hx c T e=>?_⟩
 ·have hm:=fN e;unfold yx at hm;obtain⟨x,hx,e2⟩:=pF.mp hm;obtain⟨cT,e3,e4⟩:=kD.mp e2;cases e4;obtain⟨h1,h2,h3⟩:=t.at_ x hx cT.1 cT.2 e3;obtain⟨o,vs,_,_,_,_,_,_,_,g1,g2,g3,g4,_⟩:=W.codeHd_of_K X h1;exact⟨h2,⟨_,o,vs,g1,g2,g3,g4⟩,h3⟩
 ·refine hH T (JP x) (j2 (by rw[Ex];exact t.nd) ?_)
  exact pF.mpr ⟨x,hx,by rw[e];rfl⟩
def We(P:Pg):Bool:=P.sF.isEmpty || (match P.defs.lookup ("spread":Str)with | some st=>(params st).length==2 | none=>true)
theorem jb{α β:Type} [BEq α] [LawfulBEq α] {x:α}:∀{l:List (α×β)},x∉l.map (·.1)->l.lookup x=none
 | [],_=>rfl
 | (a,b)::l,h=>by
  rw[aP,aG,not_or]at h;rw[dv,fE.mpr h.1];exact jb h.2
theorem Ib{P:Pg}(hn:(P.defs.map (·.1)++P.gH.map (·.1)).Nodup){d:Str×(Str×Str×Stmt)}(hd:d∈P.gH):kY P d.1=some d.2.2.2:=by
 rw[zI]at hn;have h1:P.defs.lookup d.1=none:=jb λz=>hn.2.2 _ z _ (uR (f:=λy:Str×(Str×Str×Stmt)=>y.1) hd) rfl
 have h2:P.gH.lookup d.1=some d.2:=j2 hn.2.1 hd;unfold kY;rw[h1,h2];rfl
def aae{P:Pg}{K:W.Frag}{h:Heap}{mg:Str->Option Value}(X:K.In h)(G:h.Ns mainGlobals mg)(hd:∀d∈P.defs,Fh K P.jB d.1 d.2)(hm:∀d∈P.gH,NZ K d)(hm0:∀C∈P.xo,N0 K C)(ND:(P.defs.map (·.1)++P.gH.map (·.1)).Nodup)
  (hc:∀d∈P.cons,∃u v,W.nsIn K mainGlobals d.1=some (some u)/\RelV v u/\∀F,bj K F d.2 v) (hb:∀x∈P.dt,W.nsIn K mainGlobals x=some none) {w:World} (ht:∀d∈P.tabs,Dr K w.params d.1 d.2) (hcl:∀d∈P.cls,NY K d.1 d.2 P.flds) (hct:∀d∈P.eO,xp K w.params d.1 d.2) (LS:We P=true) (hlm:∀x∈P.sF,N1 K x):oH P w K mg where
 fns:=λx st e=>by
  obtain⟨⟨f,fd,dV,a,F,b,c,_⟩,s⟩:=hd (x,st) (fF e);exact⟨f,fd,dV,F,b,W.mg_of X G a,s,c⟩
 gH:=λd hdm=>by
  obtain⟨Ca,f,fd,dV,h1,h2,h3,h4,h5⟩:=hm d hdm;exact⟨Ca,f,fd,dV,h1,h2,h3,h4,h5,Ib ND hdm⟩
 xo:=λC e=>by
  obtain⟨Ca,h1,h2,h3⟩:=hm0 C (by simpa using e)
  exact⟨Ca,h1,h2,h3,W.mg_of X G h1⟩
 cons:=λx p e=>by
  obtain⟨u,v,a,r,b⟩:=hc (x,p) (fF e);exact⟨u,v,W.mg_of X G a,r,b⟩
 dt:=λx e=>W.mg_none_of X G (hb x (by simpa using e))
 tabs:=λT rows e=>(ht (T,rows) (fN e)).at X G
 eO:=λT rows e=>(hct (T,rows) (fN e)).at X G
 ns:=λx a e=>W.mg_of X G e
 Nv:=λC e=>by
  have e:C∈P.cls.map (·.1):=by simpa using e
  obtain⟨d,hd,rfl⟩:=bZ.mp e;obtain⟨Ca,f,fd,a,M,c,na,F,b,s⟩:=hcl d hd;exact⟨Ca,a,c,λg hg=>na g (by simpa using hg)⟩
 cls:=λC st e=>by
  obtain⟨Ca,f,fd,a,M,c,na,F,b,s⟩:=hcl (C,st) (fF e);exact⟨Ca,f,fd,a,c,M,W.mg_of X G a,F,.all b,s⟩
def Yes(o:Option (Rs PV×List aj)):Prop:=∃h,o=some (.ok (.bl true),h)
def Q4{K:W.Frag}{P:Pg}{k:Nat}{H:Hp}{a:Addr}{ns:List Int}(hr:Yes (run P k "law" [pd ns] []))(hS:iH K H a (ns.map V.int)):tY K 1 (run P k "law") [.ref a] H (λv _=>v=.bl true) λ_ _ _=>False :=
 let ⟨h,e⟩:=hr
 ⟨H,⟨H,[]⟩,[],[pd ns],_,h,⟨cz.refl H,cz.refl H,Gr.refl _,λ_ _ e=>.inl e,λn a e=>by simp at e,rfl,pV,λn c a e=>by simp at e⟩,λ_ _ e=>.inl e,.cons (dw.mpr ⟨a,_,rfl,hS,yw ns⟩) .nil,rfl,e,λv F' H' _ b=>bz.mp b⟩
def Ic{P:Pg}{N:Nat}{x:Str}{st:Stmt}{l:W.OpenLaw}{q:Program}{loose:List Str}{XP:(Str->Option Value)->Heap->Prop}{YP:World->Heap->Prop}{d:DefRec}(sg:P.defs.lookup ("law":Str)=some st)(hx:params st=[x])
  (hn:l.most=some 63) (XD:d.name="law") (Td:d.params.defaults=[]) (hr:c7 (3*N) callerA) (LS:We P=true) (ND:(P.defs.map (·.1)++P.gH.map (·.1)).Nodup) (PY:P.jB.lookup ("law":Str)=none) (hY:∀(w:World) (h:Heap),YP w h->∃K:W.Frag,K.In h/\Fl P w K/\lI K h)
  (aag:∀ns:List Int,ns.length<=63->Yes (run P N "law" [pd ns] [])):W.WalkO q loose XP YP l.row.toRowW d [] (λf vs=>PySem.call f vs):=by
 refine Att.xK hn Td λw s₀ s₁ mg mb fa o pm cd doc a vs ns G Y ho hd w6 Su Gj Gk eX hg=>?_
 obtain⟨K,KX,T,TH⟩:=hY w _ Y;obtain⟨t1,t2⟩:=TH.tabs KX;have O:=aae KX G.T.g T.hd T.hm T.hm0 ND T.hc T.hb T.ht T.hcl T.hct LS T.hlm;obtain⟨⟨f,fd,dV,e0,F,_,_,b⟩,s⟩:=T.hd ("law",st) (fF sg);have b:=b PY;rw[XD]at Su;have e:=Su.symm.trans (W.mg_of KX G.T.g e0);cases e;rw[hx]at b;refine DM (CX:=ik l.prog w) KX G.T.g G.T.b G.T.builtins G.T.nolimit hg t1 t2 Gj Gk (aR eX (by decide)) hr (λbase kb _=>?_) (λs u=>.of_eq (b [u] rfl)) (λH hS=>Q4 (aag ns eX) hS) (by rintro _ _ _ ⟨_,_,_,_,_,_,_,_,_,_,_,h,_⟩;exact h)
 have k:=Ia (prog:=l.prog) O (λz=>(T.hbm z).at KX G.T.g kb) N "law" "law" "law" st _ fd dV (qZ sg) F s
 rw[hx]at k;exact k
abbrev Ev{α:Type}(f:Gx α)(s:b8)(a:α)(s':b8):Prop:=f s=some (.ok a,s')
abbrev Ek {α : Type} (f : Gx α) (s : b8) (a : α) : Prop := Ev f s a s
section
variable {α β:Type} {s s1 s2 s3:b8}
def eB(h:Ev f s a s1)(h2:k a s1=r):bnd f k s=r:=by
 show(f s).bind (O8 k)=r;rw[h];exact h2
variable {fa fb fe:Gx PV} {ts:Gx (List PV)} {p q x y z:PV} {ps as:List PV}
def b2(ha:Ev fa s x s1)(hb:Ev fb s1 y s2)(h:g s2.h x y=some z):Ev (op2 g fa fb) s z s2:=eB ha (eB hb (by show(g s2.h x y).map _=_;rw[h];rfl))
variable {f g:Gx dJ} {r:Option (Rs dJ×b8)}
def aah(e:f ⟨gk n as,h⟩=some (.ok (.rt p),⟨ρ',h'⟩)):gW f n as h=some (.ok p,h'):=by
 unfold gW;rw[e];rfl
def runN(e:f ⟨gk n as,h⟩=some (.ok .nx,⟨ρ',h'⟩)):gW f n as h=some (.ok .aL,h'):=by
 unfold gW;rw[e];rfl
variable {t:Tg} {body:Gx dJ}
def fC(ht:t p s=some s1)(hb:Ev body s1 .nx s2)(h:gj t body ps s2=r):gj t body (p::ps) s=r:=eB (show Ev (stp (t p)) s .nx s1 by show(t p s).map _=_;rw[ht];rfl) (eB hb h)
def e1(ht:t p ⟨ρ,h⟩=some ⟨M9,h1⟩)(he:Ev fe ⟨M9,h1⟩ q ⟨Q5,h2⟩):oC t fe ρ p h=some (some q,h2):=by
 unfold oC;rw[ht,jt,he];rfl
def e2T(ht:t p ⟨ρ,h⟩=some ⟨M9,h1⟩)(hw:Ev ft ⟨M9,h1⟩ true ⟨Q5,h2⟩)(he:Ev fe ⟨Q5,h2⟩ q ⟨ρ3,h3⟩):xX t ft fe ρ p h=some (some q,h3):=by
 unfold xX;rw[ht,jt,hw,jt];show(if true=true then(fe ⟨Q5,h2⟩).bind _ else _)=_
 rw[if_pos rfl,he];rfl
def e2F(ht:t p ⟨ρ,h⟩=some ⟨M9,h1⟩)(hw:Ev ft ⟨M9,h1⟩ false ⟨Q5,h2⟩):xX t ft fe ρ p h=some (none,h2):=by
 unfold xX;rw[ht,jt,hw];rfl
end
end L2.U
namespace L2.U
open PySem L2
def Ie(hp:noRef p=true):iu h p=some p:=by
 unfold iu;split
 ·rfl
 ·unfold nK;rw[if_pos hp]
end L2.U
noncomputable section
namespace bI
open PySem L2 L2.U
abbrev Wf:Stmt:=top 110
noncomputable def eL:List Str:=["Box","Grip","Boxes","Frame","Run"]
noncomputable def eM:List Str:=["number","pile","value","boxes","tag","entries","boxes_made","tags_made","at","has","row","program","world","numbers","listed","frames","said","count"]
def Ey(c:CT):CT:=SH aM c
def gmT(x:Str)(st:Stmt)(mk:CT)(cls:List (Str×Nat))(c:CT):Gm:={V8 aM x st cls mk (V9 aM x c) none c with clss:=eL,flds:=eM}
def rdT(x:Str)(st:Stmt)(c:CT):Gx dJ:=ja A8 (gmT x st (Ey c) (LN aM) c) (cj st)
abbrev kI (n : Int) : Gx PV := cD (.int n)
abbrev kS (s : Str) : Gx PV := cD (.str s)
abbrev Q0 := AA 2 (qG (dh 4) (qG (dh 5) DP))
abbrev Q1 := Ll "frames" (rd 0)
abbrev Q2 := i7 (rd 2) (i7 (rd 4) (i7 (rd 1) (cD [])))
abbrev Q3 := oC (dh 1) (DO (cD [])) [none,none]
def LO:List (Str×Nat):=aM.defs.map λd=>(d.1,(params d.2).length)
abbrev Rn(x:Str)(F:CT->Gx dJ)(n:Nat):Prop:=∀k,run aM (k+1) x=gW (F (run aM k)) n
open Lean Meta in
dsimproc_decl pqF (Str.mk _):=λe=>do
 let .app _ (.app _ l):=e | return .continue
 let some l <-getListLit? l | return .continue
 return .done (mkApp (mkConst ``Str.ofString) (toExpr (String.ofList (l.toList.map λx=>Char.ofNat (x.nat?.getD 0)))))
open Lean in
dsimproc_decl pqI (Int.ofNat _):=λe=>do
 let .app _ n:=e | return .continue
 let some n:=n.nat? | return .continue
 return .done (toExpr (n:Int))
noncomputable def lbP(s:List Stmt):List Nat->List Stmt
 | []=>s
 | i::r=>lbP (match s[i]? with | some (.For _ _ b _ _) | some (.If _ b _ _) | some (.While _ b _ _) | some (.Try b _ _ _ _)=>b | _=>[]) r
noncomputable abbrev gy(a:Gx dJ){f:Gx dJ}(_:a=f:=by conv=>(lhs;reduce;simp only[pqF,pqI])):Gx dJ:=f
def eQ(x:Str)(st:Stmt)(n k:Nat){f:CT->Gx dJ}(h:∀k,run aM (k+1) x=gW (rdT x st (run aM k)) n:=by intro _;kernel_rfl)(e:∀c,rdT x st c=f c:=by intro c;conv=>(lhs;reduce;simp only[pqF,pqI])):run aM (k+1) x=gW (f (run aM k)) n:=by rw[h,e]
def q9(x:Str)(st:Stmt)(p:List Nat)(c:CT):Gx dJ:=ja A8 (gmT x st (Ey c) (LN aM) c) (lbP (cj st) p)
def Wg(x:Str)(st:Stmt)(c:CT):Gx dJ:=ja A8 (gmT x st noFn [] c) (cj st)
def XJ(x:Str)(st:Stmt)(n:Nat)(c:CT){f:CT->Gx dJ}(h:∀c,Ey c x=gW (Wg x st c) n:=by intro _;kernel_rfl)(e:∀c,Wg x st c=f c:=by intro c;conv=>(lhs;reduce;simp only[pqF,pqI])):Ey c x=gW (f c) n:=by rw[h,e]
section
seal KZ qF Lm op2 bu rd bnd i7 cD mB jL AL oC xX dh BV Jt oB ow toB E2 Gz Pc lZ DO Lg KN DR cu Ku chain leO UC ki A3 KP cutE GG KU mQ gK AA qG DP vH Lj PF kZ Qd fu dN fw Cr Ee Xq SA Cf ZE O9 Xs Sy KO SH Ll P0 xZ KA UD cE UB GI gL Pr Pa gW KW Ql PH Lq QA Qs LJ gtO P6 jO Ey eL eM yu VD LF HG qW qV En wb qU Em nM ek
def Q6(c:CT):=XJ "Box" MK 4 c
def LP(c:CT):=XJ "Grip" FL 3 c
def Ig(c:CT):=XJ "Frame" BH 3 c
def Q7(c:CT):=XJ "Run" ML 3 c
noncomputable def mC (k:Nat):=eQ "Boxes.new_tag" iY 1 k
noncomputable def mD (k:Nat):=eQ "Boxes.new_box" iZ 5 k
noncomputable def oI (k:Nat):=eQ "Boxes.owned" kr 4 k
noncomputable def sO (k:Nat):=eQ "Boxes.let" nS 3 k
noncomputable def jc (k:Nat):=eQ "Boxes.touch" ku 3 k
noncomputable def aK (c:CT):=gy (q9 "Boxes.touch_boxes" d5 [2] c)
noncomputable def fz (k:Nat):=eQ "Boxes.touch_boxes" d5 8 k
noncomputable def oJ (k:Nat):=eQ "Boxes.store" kx 6 k
noncomputable def dP (c:CT):=gy (q9 "Boxes.let_go" eW [0,0] c)
noncomputable def dQ (c:CT):=gy (q9 "Boxes.let_go" eW [0] c)
noncomputable def nN (k:Nat):=eQ "Boxes.let_go" eW 5 k
noncomputable def eN (k:Nat):=eQ "leaves" (top 7) 3 k
noncomputable def yy (k:Nat):=eQ "kind_of" (top 14) 4 k
noncomputable def jS (c:CT):Gx dJ :=
 (qF (lZ (Cr LO c (Ee (λk=>(List.lookup k gJ).map .fn) (op2 bu (rd 5) (kI 0))) (i7 (rd 2) (i7 (rd 5) (cD [])))) (dh 6))
  (BV (Jt "list" oB (rd 3) (i7 (jL false [none,none,some 4] (AL (Xq (rd 6) (Pc .lst (i7 (cD (.au [(.str "rest"),(.str ""),(.bl false),(.int 0),(.int 0),(.str "")])) (cD []))))) (oC (dh 1) (op2 gK (Pc .au (i7 (rd 2) (cD []))) (rd 1)))) (cD [])))))
noncomputable def Ih (c:CT):Gx dJ :=
 (qF (lZ (op2 bu (rd 0) (rd 1)) (dh 2))
  (qF (lZ (DO (cD [])) (dh 3))
  (qF (Lg (SA (Cf (op2 bu (rd 2) (kI 4)))) Q0 (jS c))
  (Gz (rd 3)))))
theorem Ij:Rn "acts" Ih 7:=λ_=>by kernel_rfl
noncomputable def uk (k:Nat):=eQ "touch" (top 32) 6 k
noncomputable def oK (k:Nat):=eQ "touch_whole" (top 33) 4 k
noncomputable def yz (k:Nat):=eQ "at_acts" (top 34) 2 k
noncomputable def nO (k:Nat):=eQ "operand_acts" (top 35) 2 k
noncomputable def oM (k:Nat):=eQ "target_acts" (top 36) 2 k
noncomputable def mE (k:Nat):=eQ "put_acts" (top 37) 2 k
noncomputable def wx (k:Nat):=eQ "set_acts" (top 38) 2 k
noncomputable def sP (k:Nat):=eQ "copy_acts" (top 39) 2 k
noncomputable def sQ (k:Nat):=eQ "move_acts" (top 40) 2 k
noncomputable def yA (k:Nat):=eQ "if_acts" (top 46) 2 k
noncomputable def yB (k:Nat):=eQ "go_acts" (top 47) 2 k
noncomputable def wz (k:Nat):=eQ "say_acts" (top 48) 2 k
noncomputable def sR (k:Nat):=eQ "give_acts" (top 49) 2 k
noncomputable def yC (k:Nat):=eQ "read_by" (top 52) 3 k
noncomputable def rf (k:Nat):=eQ "written_by" (top 53) 3 k
noncomputable def wA (k:Nat):=eQ "place_of" (top 56) 4 k
noncomputable def rh (k:Nat):=eQ "check_held" (top 63) 2 k
noncomputable def wB (k:Nat):=eQ "boxes_of" (top 64) 2 k
noncomputable def oN (k:Nat):=eQ "pile_behind" (top 65) 4 k
noncomputable def eE (c:CT):=gy (q9 "acts_by_row" (top 74) [1] c)
noncomputable def oO (k:Nat):=eQ "acts_by_row" (top 74) 4 k
noncomputable def A9 (k:Nat):=eQ "row_of" (top 75) 2 k
noncomputable def yD (k:Nat):=eQ "acts_of" (top 76) 2 k
noncomputable def lq (k:Nat):=eQ "run_from_first" (top 77) 5 k
noncomputable def Ez (k:Nat):=eQ "begin" (top 78) 6 k
noncomputable def fO (c:CT):=gy (q9 "run_on" (top 79) [0] c)
noncomputable def Ba (k:Nat):=eQ "run_on" (top 79) 2 k
noncomputable def lr (k:Nat):=eQ "do_row" (top 80) 4 k
noncomputable def rj (k:Nat):=eQ "row_behind" (top 81) 4 k
noncomputable def cR (c:CT):=gy (q9 "do_acts" (top 82) [1] c)
noncomputable def jT (k:Nat):=eQ "do_acts" (top 82) 6 k
noncomputable def lu (k:Nat):=eQ "do_act" (top 83) 6 k
noncomputable def fZ (k:Nat):=eQ "written" (top 84) 7 k
noncomputable def wC (k:Nat):=eQ "strip_of" (top 85) 2 k
noncomputable def rk (k:Nat):=eQ "number_put" (top 86) 3 k
noncomputable def az (c:CT):=gy (q9 "numbers_found" (top 87) [2] c)
noncomputable def mF (k:Nat):=eQ "numbers_found" (top 87) 7 k
noncomputable def yE (k:Nat):=eQ "do_give" (top 89) 4 k
noncomputable def rm (k:Nat):=eQ "given_back" (top 90) 5 k
noncomputable def wD (k:Nat):=eQ "owned_by" (top 91) 3 k
noncomputable def LQ (k:Nat):=eQ "run" (top 94) 7 k
noncomputable def wF (k:Nat):=eQ "_law_cell_at" (top 96) 2 k
noncomputable def Bb (k:Nat):=eQ "_law_whole" (top 97) 1 k
noncomputable def rn (c:CT):=gy (q9 "_law_names" (top 98) [4,1] c)
noncomputable def lx (c:CT):=gy (q9 "_law_names" (top 98) [4] c)
noncomputable def Bc (k:Nat):=eQ "_law_names" (top 98) 9 k
noncomputable def EA (k:Nat):=eQ "_law_spot" (top 99) 6 k
noncomputable def wG (k:Nat):=eQ "_law_operand" (top 100) 4 k
noncomputable def yF (k:Nat):=eQ "_law_copied" (top 101) 6 k
noncomputable def Ik (k:Nat):=eQ "_law_row" (top 102) 6 k
noncomputable def iS (c:CT):=gy (q9 "_law_program" (top 103) [13] c)
noncomputable def wH (k:Nat):=eQ "_law_program" (top 103) 10 k
noncomputable def Be (k:Nat):=eQ "_law_begin" (top 104) 5 k
noncomputable def Bf (k:Nat):=eQ "_law_place" (top 105) 3 k
noncomputable def nY (k:Nat):=eQ "_law_number" (top 106) 3 k
noncomputable def yG (k:Nat):=eQ "_law_reckon" (top 107) 3 k
noncomputable def EB (k:Nat):=eQ "_law_done" (top 108) 5 k
noncomputable def EC (k:Nat):=eQ "_law_told" (top 109) 4 k
noncomputable def pe (c:CT):=gy (q9 "law" (top 110) [8] c)
noncomputable def LR (k:Nat):=eQ "law" (top 110) 10 k
end
end bI
namespace L2.U
section
open PySem
theorem acd{α:Type}{o:Option α}{v:α}{st:b8}(h:o=some v):jd o st=some (.ok v,st):=by show o.map _=_;rw[h];rfl
theorem aeC{α:Type}{g:List aj->Option α}{v:α}{st:b8}(h:g st.h=some v):hp g st=some (.ok v,st):=by show(g st.h).map _=_;rw[h];rfl
theorem ace{g:b8->Option b8}{st st':b8}(h:g st=some st'):stp g st=some (.ok .nx,st'):=by show(g st).map _=_;rw[h];rfl
theorem acf{α β:Type}{f:Gx α}{k:α->Gx β}{st s1:b8}{a:α}{r:Option (Rs β×b8)}(h:f st=some (.ok a,s1))(h2:k a s1=r):bnd f k st=r:=eB h h2
theorem aeD{α:Type}{b:Bool}{f g:Gx α}{st:b8}{r:Option (Rs α×b8)}(h:b=true)(h2:f st=r):(if b=true then f else g) st=r:=by rw[if_pos h];exact h2
theorem aeE{α:Type}{b:Bool}{f g:Gx α}{st:b8}{r:Option (Rs α×b8)}(h:b=false)(h2:g st=r):(if b=true then f else g) st=r:=by rw[if_neg (by rw[h];exact cw)];exact h2
theorem aal{α:Type}{gc:Gx Bool}{f g:Gx α}{st s1:b8}{r:Option (Rs α×b8)}(h:gc st=some (.ok true,s1))(h2:f s1=r):ow gc f g st=r:=eB h h2
theorem aam{α:Type}{gc:Gx Bool}{f g:Gx α}{st s1:b8}{r:Option (Rs α×b8)}(h:gc st=some (.ok false,s1))(h2:g s1=r):ow gc f g st=r:=eB h h2
theorem wI{f:Gx dJ}{n:Nat}{as:List PV}{h:List aj}{p:PV}{st':b8}(e:f ⟨gk n as,h⟩=some (.ok (.rt p),st')):gW f n as h=some (.ok p,st'.h):=aah e
theorem aan{f:Gx dJ}{n:Nat}{as:List PV}{h:List aj}{st':b8}(e:f ⟨gk n as,h⟩=some (.ok .nx,st')):gW f n as h=some (.ok .aL,st'.h):=runN e
theorem CI{n:Nat}{g:j7}{as:List PV}{st:b8}{p q:PV}{h':List aj}(hn:(st.h.isEmpty || ao as)=true)(hl:as.length=n)(hc:g as []=some (.ok p,h'))(hf:iu h' p=some q):jM n g as st=some (.ok q,st):=by
 unfold jM;rw[if_pos ⟨hl,hn⟩,hc];show(iu h' p).map _=_;rw[hf];rfl
theorem aao{n:Nat}{g:j7}{as:List PV}{st:b8}{p q:PV}{h':List aj}(hn:(st.h.isEmpty || ao as)=true)(hl:as.length=n)(hc:g as []=some (.ok p,h'))(hf:iu h' p=some q):mB 0 n g as st=some (.ok q,st):=by
 unfold mB;rw[hn,if_pos (show((0==0)&&true)=true from rfl)]
 exact CI hn hl hc hf
theorem XM{m n:Nat}{g:j7}{as:List PV}{st:b8}{p:PV}{h':List aj}(hn:((m==0)&&(st.h.isEmpty || ao as))=false)(hl:as.length=n)(hc:g as st.h=some (.ok p,h')):mB m n g as st=some (.ok p,⟨st.ρ,h'⟩):=by
 unfold mB;rw[hn,if_neg cw];unfold ig;rw[if_pos hl,hc];rfl
theorem ED{α:Type}{f:α->PV}{q:α->PV}{h:List aj}{bd:PV->List aj->Option (Option PV×List aj)}:∀{L:List α},(∀x∈L,bd (f x) h=some (some (q x),h))->fy bd (L.map f) h=some (L.map q,h)
 | [],_=>rfl
 | x::L,H=>by
  show(bd (f x) h).bind _=_;rw[H x du];show(fy bd (L.map f) h).map _=_;rw[ED λy hy=>H y (cG _ hy)]
  rfl
theorem aap{link:List (Option Nat)}{fi:Gx Cg}{bd:Bd}{st s1:b8}{ps qs:List PV}{h':List aj}(hi:fi st=some (.ok (.sq ps),s1))(hl:ps.length<=4000000)(hc:fy (bd (dq link s1.ρ)) ps s1.h=some (qs,h')):jL false link fi bd st=some (.ok (.lst qs),⟨s1.ρ,h'⟩):=eB hi (by
 show(if ps.length<=ic then fy _ ps s1.h else none).bind _=_
 rw[if_pos (show ps.length<=ic from hl),hc]
 rfl)
theorem Q8{t:Tg}{fe:Gx PV}{ρ:List (Option PV)}{p q:PV}{h:List aj}{st1:b8}{Q5:List (Option PV)}{h2:List aj}(ht:t p ⟨ρ,h⟩=some st1)(he:fe st1=some (.ok q,⟨Q5,h2⟩)):oC t fe ρ p h=some (some q,h2):=by
 unfold oC;rw[ht,jt,he];rfl
theorem SJ{bd:PV->List aj->Option (Option PV×List aj)}{h:List aj}:fy bd [] h=some ([],h):=rfl
theorem rp{bd:PV->List aj->Option (Option PV×List aj)}{p:PV}{ps qs:List PV}{o:Option PV}{h h1 h2:List aj}(e1:bd p h=some (o,h1))(e2:fy bd ps h1=some (qs,h2)):fy bd (p::ps) h=some (o.toList++qs,h2):=by
 show(bd p h).bind _=_;rw[e1];show(fy bd ps h1).map _=_;rw[e2];rfl
theorem XN{n:Nat}{g:j7}{as:List PV}{st:b8}{p:PV}{h':List aj}(hl:as.length=n)(hc:g as st.h=some (.ok p,h')):ig n g as st=some (.ok p,⟨st.ρ,h'⟩):=by
 show(if as.length=n then(g as st.h).map λr=>(U7 r.1,(⟨st.ρ,r.2⟩:b8))else none)=_
 rw[if_pos hl,hc];rfl
theorem aaq{C:Str}{n:Nat}{g:j7}{as:List PV}{st:b8}{h':List aj}(hl:as.length+1=n)(hg:g (.ref st.h.length::as) (st.h++[⟨.ins C [],[]⟩])=some (.ok .aL,h')):LF C n g as st=some (.ok (.ref st.h.length),⟨st.ρ,h'⟩):=by
 unfold LF;rw[if_pos hl,hg];rfl
theorem aar{fa:Gx PV}{st s1:b8}{ps:List PV}{c:aj}(h:fa st=some (.ok (.lst ps),s1))(hc:Hq ps=some c):Lq fa st=some (.ok (.ref s1.h.length),⟨s1.ρ,s1.h++[c]⟩):=eB h (by
 show(Hq ps).bind (λc=>jH c s1)=_
 rw[hc];rfl)
noncomputable def gx{α:Type}(f:Gx α)(st:b8):Option (Rs α×b8):=f st
theorem acg{α:Type}{f:Gx α}{st:b8}{r:Option (Rs α×b8)}(h:f st=r):gx f st=r:=h
theorem aY{α:Type}{f:Gx α}{st:b8}{r:Option (Rs α×b8)}(h:gx f st=r):f st=r:=h
end
end L2.U
set_option maxHeartbeats 4000000
namespace bI
open PySem L2 L2.U
theorem ak{h:List aj}{n:Nat}{k:Kd}{ps:List PV}(e:h[n]?=some ⟨k,ps⟩)(hl:live ⟨k,ps⟩=true):cQ h (.ref n)=some (k,ps):=by
 show((h[n]?).bind λc=>if live c=true then some (c.k,c.ps)else none)=_
 rw[e,jt,if_pos hl]
theorem dy{h:List aj}{n:Nat}{k:Kd}{ps:List PV}(e:h[n]?=some ⟨k,ps⟩)(hl:live ⟨k,ps⟩=true):jf h (.ref n)=some (n,⟨k,ps⟩):=by
 show((h[n]?).bind λc=>if live c=true then some (n,c)else none)=_
 rw[e,jt,if_pos hl]
theorem Il{h:List aj}{n:Nat}{c:aj}(e:h[n]?=some c):h.set n c=h:=by
 apply List.ext_getElem?;intro i;by_cases hi:n=i
 ·subst hi;rw[e];simp[(dF.mp e).1]
 ·rw[bY hi]
theorem cC{h:List aj}{n:Nat}{c d:aj}(e:h[n]?=some c):(h.set n d)[n]?=some d:=by
 simp[(dF.mp e).1]
theorem d8{h:List aj}{n:Nat}{c:aj}(e:h[n]?=some c):n<h.length:=(dF.mp e).1
theorem bJ{h g:List aj}{n:Nat}{c:aj}(e:h[n]?=some c):(h++g)[n]?=some c:=by
 rw[fB (d8 e),e]
theorem cX{h:List aj}{c:aj}:(h++[c])[h.length]?=some c:=by simp
theorem CJ{g:List aj}{c d:aj}:(g++[c]).set g.length d=g++[d]:=by simp
theorem eA{h:List aj}{n:Nat}{C f:Str}{ns:List Str}{ps:List PV}{v:PV}{ρ:List (Option PV)}(e:h[n]?=some ⟨.ins C ns,ps⟩)(hc:(eL.contains C&&eM.contains f&&decide (ns.length<900))=true) :
  ek eL eM f (.ref n) v ⟨ρ,h⟩=some ⟨ρ,h.set n ⟨.ins C (jg f v ns ps).1,(jg f v ns ps).2⟩⟩:=by
 unfold ek;rw[dy e rfl];exact if_pos hc
theorem f7{g:List aj}{C f:Str}{ns:List Str}{ps:List PV}{v:PV}{ρ:List (Option PV)}(hc:(eL.contains C&&eM.contains f&&decide (ns.length<900))=true) :
  ek eL eM f (.ref g.length) v ⟨ρ,g++[⟨.ins C ns,ps⟩]⟩=some ⟨ρ,g++[⟨.ins C (jg f v ns ps).1,(jg f v ns ps).2⟩]⟩:=by
 rw[eA cX hc,CJ]
def et(t:Int):PV:=.lst [.au [.int t,.str "own"]]
abbrev jj(m t:Int)(v:PV):aj:=⟨.ins "Box" ["number","pile","value"],[.int m,et t,v]⟩
abbrev Jv(P:List PV)(t:Int):aj:=⟨.ins "Grip" ["boxes","tag"],[.lst P,.int t]⟩
noncomputable abbrev jk(nb nt:Int):aj:=⟨.ins "Boxes" ["entries","boxes_made","tags_made"],[.ref 1,.int nb,.int nt]⟩
theorem CK{h:List aj}{n:Nat}{m t:Int}{v w:PV}{ρ:List (Option PV)}(e:h[n]?=some (jj m t v)):ek eL eM "value" (.ref n) w ⟨ρ,h⟩=some ⟨ρ,h.set n (jj m t w)⟩:=by
 rw[eA e (by kernel_rfl)]
 rfl
theorem yH{h:List aj}{n:Nat}{m t:Int}{v:PV}{ρ:List (Option PV)}(e:h[n]?=some (jj m t v)):ek eL eM "pile" (.ref n) (et t) ⟨ρ,h⟩=some ⟨ρ,h⟩:=by
 rw[eA e (by kernel_rfl)]
 show some (⟨ρ,h.set n (jj m t v)⟩:b8)=_;rw[Il e]
structure Ch (h h':List aj) (A:List Nat):Prop where
 le:h.length<=h'.length
 eq:∀n,n<h.length->n∉A->h'[n]?=h[n]?
theorem Ch.refl(h:List aj)(A:List Nat):Ch h h A:=⟨aA _,λ_ _ _=>rfl⟩
theorem Ch.app(h g:List aj)(A:List Nat):Ch h (h++g) A:=⟨by simp,λn hn _=>fB hn⟩
theorem Ch.set{h:List aj}{n:Nat}(c:aj):Ch h (h.set n c) [n]:=⟨by simp,λm _ hm=>bY (λz=>hm (by simp[z]))⟩
theorem Ch.tr{h h' Js:List aj}{A B:List Nat}(a:Ch h h' A)(b:Ch h' Js B)(hB:∀n∈B,n<h.length->n∈A):Ch h Js A :=
 ⟨aR a.le b.le,λn hn hA=>by rw[b.eq n (cm hn a.le) λz=>hA (hB n z hn),a.eq n hn hA]⟩
theorem Ch.mono{h h':List aj}{A B:List Nat}(a:Ch h h' A)(hB:∀n∈A,n∈B):Ch h h' B:=⟨a.le,λn hn hA=>a.eq n hn λz=>hA (hB n z)⟩
theorem Ch.get{h h':List aj}{A:List Nat}(a:Ch h h' A){n:Nat}{c:aj}(e:h[n]?=some c)(hA:n∉A):h'[n]?=some c:=by
 rw[a.eq n (d8 e) hA,e]
theorem fx{h:List aj}{n:Nat}{c:aj}(e:h[n]?=some c):h.isEmpty=false:=by
 cases h with
 | nil=>simp at e
 | cons _ _=>rfl
theorem ko(n:Nat)(L:List PV):ao (.ref n::L)=false:=rfl
theorem fg{h:List aj}{n:Nat}{L:List PV}{v:PV}{ρ:List (Option PV)}(e:h[n]?=some ⟨.lst,L⟩)(hl:L.length<4000000):fu (dN fw) (.ref n) [v] ⟨ρ,h⟩=some (.ok .aL,⟨ρ,h.set n ⟨.lst,L++[v]⟩⟩):=by
 show((jf h (.ref n)).bind λc=>(dN fw c.2 [v]).map λr=>_)=_
 rw[dy e rfl];have:fw L [v]=some (L++[v]):=if_pos (show L.length<ic from hl)
 show(((fw L [v]).map λqs=>((⟨.lst,qs⟩:aj),PV.aL)).map λr=>_)=_
 rw[this];rfl
def Wd(h:List aj)(k:Nat):Prop:=∃nb nt es,h[0]?=some (jk nb nt)/\h[1]?=some ⟨.lst,es⟩/\es.length+k<=3000000
theorem Wd.ch{h h':List aj}{k:Nat}{A:List Nat}(w:Wd h k)(c:Ch h h' A)(hA:0∉A/\1∉A):Wd h' k:=by
 obtain⟨nb,nt,es,h0,h1,hk⟩:=w;exact⟨nb,nt,es,c.get h0 hA.1,c.get h1 hA.2,hk⟩
theorem Wd.mono{h:List aj}{k k':Nat}(w:Wd h k)(hk:k'<=k):Wd h k':=by
 obtain⟨nb,nt,es,h0,h1,h2⟩:=w;exact⟨nb,nt,es,h0,h1,by lia⟩
theorem Wd.add{h:List aj}{k:Nat}{v:PV}(w:Wd h (k+1)):∃es,h[1]?=some ⟨.lst,es⟩/\es.length<4000000/\Wd (h.set 1 ⟨.lst,es++[v]⟩) k:=by
 obtain⟨nb,nt,es,h0,h1,h2⟩:=w;exact⟨es,h1,by lia,nb,nt,es++[v],by rw[bY (by decide),h0],cC h1,by simp;lia⟩
theorem yI{h:List aj}{a b:Int}:mQ h (.int a) (.int b)=some (.bl (a==b)):=rfl
end bI
namespace L2.U
section
set_option compiler.extract_closed false
open Lean Meta
abbrev zq9wh (e : Lean.Expr) : MetaM Lean.Expr := withDefault (whnf e)
abbrev zq9sm (e : Lean.Expr) : SimpM Simp.Result := withReducible (Simp.simp e)

def zq9er {α : Type} : SimpM α := throwError "e"

def zq9isT9 (e : Lean.Expr) : Bool := e.isConstOf ``Bool.true

def zq9isF9 (e : Lean.Expr) : Bool := e.isConstOf ``Bool.false

def zq9mkn (n : Lean.Name) (a : Array Lean.Expr) : Lean.Expr := mkAppN (mkConst n) a

def zq9mkS (a b : Lean.Expr) : Lean.Expr := mkApp2 (mkConst ``b8.mk) a b

def zq9one (c : Lean.Expr) : Lean.Expr := mkApp3 (mkConst ``List.cons [0]) (mkConst ``aj) c (mkApp (mkConst ``List.nil [0]) (mkConst ``aj))

def zq9stH (s : Lean.Expr) : MetaM (Lean.Expr × Lean.Expr) := do
 let t ← zq9wh s
 if t.isAppOfArity ``b8.mk 2 then return (t.appFn!.appArg!, t.appArg!) else return (mkApp (mkConst ``b8.ρ) s, mkApp (mkConst ``b8.h) s)

def zq9eqR (q : Lean.Expr) : SimpM Lean.Expr := do
 match (← inferType q).eq? with
 | some (_, _, r) => return r
 | none => zq9er

def zq9prf (r : Simp.Result) (e x : Lean.Expr) : MetaM Lean.Expr := do mkExpectedTypeHint (← r.getProof) (← mkEq e x)
def zq9rflT (e d : Lean.Expr) : MetaM Lean.Expr := do mkExpectedTypeHint (← mkEqRefl d) (← mkEq e d)

def zq9nList (w : Bool) : Nat → Lean.Expr → MetaM Lean.Expr
 | 0, e => return e
 | n + 1, e => do
  let d ← zq9wh e
  if d.isAppOfArity ``List.cons 3 then
   let a := d.appFn!.appArg!.headBeta
   let a ← if w then (do let b ← zq9wh a; return if b.isAppOf ``Option.some || b.isAppOf ``Option.none then b else a) else pure a
   return mkApp2 d.appFn!.appFn! a (← zq9nList w n d.appArg!)
  else if d.isAppOf ``List.nil then return d
  else return e
def zq9natOf : Nat → Lean.Expr → MetaM (Option Nat)
 | 0, _ => return none
 | n + 1, e => do
  let d ← zq9wh e
  match d with
  | .lit (.natVal k) => return some k
  | _ => if d.isAppOfArity ``Nat.succ 1 then return (← zq9natOf n d.appArg!).map (· + 1) else if d.isConstOf ``Nat.zero then return some 0 else return none
def zq9isLit (e : Lean.Expr) : Nat → Bool
 | 0 => false
 | n + 1 => e.isAppOf ``List.nil || (e.isAppOfArity ``List.cons 3 && zq9isLit e.appArg! n)
def zq9stripH : Nat → Lean.Expr → MetaM Lean.Expr
 | 0, e => return e
 | n + 1, e => do
  if e.isAppOfArity ``b8.h 1 then
   let s ← whnfCore e.appArg!
   let s ← if s.isAppOfArity ``b8.mk 2 then pure s else zq9wh s
   if s.isAppOfArity ``b8.mk 2 then zq9stripH n s.appArg! else return e
  else if e.isAppOfArity ``HAppend.hAppend 6 then return mkApp2 e.appFn!.appFn! (← zq9stripH n e.appFn!.appArg!) e.appArg!
  else if e.isAppOfArity ``List.set 4 then
   let as := e.getAppArgs
   return mkAppN e.getAppFn #[as[0]!, ← zq9stripH n as[1]!, as[2]!, as[3]!]
  else return e
def zq9nVal (v : Lean.Expr) : MetaM Lean.Expr := do
 let v ← withReducible (whnf v.headBeta)
 if v.isAppOfArity ``PV.ref 1 then
  if v.appArg!.isLit then return v
  match ← zq9natOf 60 v.appArg! with
  | some k => return mkApp (mkConst ``PV.ref) (mkNatLit k)
  | none => if v.appArg!.isAppOfArity ``List.length 2 then return mkApp v.appFn! (mkApp v.appArg!.appFn! (← zq9stripH 60 v.appArg!.appArg!)) else return v
 if v.isAppOfArity ``PV.nd 2 && !(v.appArg!.isAppOf ``List.map || zq9isLit v.appArg! 200) then
  let ps ← zq9nList false 200 v.appArg!
  return if zq9isLit ps 200 then mkApp v.appFn! ps else v
 if (← isConstructorApp? v).isSome || v.isFVar then return v
 if v.isProj || (← isMatcherApp v) || v.getAppFn.isProj then zq9wh v else match v.getAppFn with
 | .const c _ => if (← isProjectionFn c) || c == ``Option.get || c == ``ite || c == ``Option.getD then zq9wh v else return v
 | _ => return v
def zq9nCell (c : Lean.Expr) : MetaM Lean.Expr := do
 let d ← zq9wh c
 unless d.isAppOfArity ``aj.mk 2 do return c
 let k ← zq9wh d.appFn!.appArg!
 let k ← if k.isAppOfArity ``Kd.ins 2 then pure (mkApp k.appFn! (← zq9nList false 200 k.appArg!)) else pure k
 let ps ← zq9nList false 200 d.appArg!
 return mkApp2 d.appFn!.appFn! k ps
def zq9nHeap : Nat → Lean.Expr → MetaM Lean.Expr
 | 0, e => return e
 | n + 1, e => do
  let d ← zq9wh e
  if d.isAppOfArity ``List.cons 3 then return mkApp2 d.appFn!.appFn! (← zq9nCell d.appFn!.appArg!.headBeta) (← zq9nHeap n d.appArg!)
  else if d.isAppOf ``List.nil then return d
  else zq9stripH 60 e
def zq9nSta (e : Lean.Expr) : MetaM Lean.Expr := do
 let d ← zq9wh e
 if d.isAppOfArity ``b8.mk 2 then return mkApp2 d.appFn!.appFn! (← zq9nList true 200 d.appFn!.appArg!) (← zq9nHeap 200 d.appArg!) else return e
def zq9someArg? (e : Lean.Expr) : Option Lean.Expr := if e.isAppOfArity ``Option.some 2 then some e.appArg! else none
def zq9evB (b : Lean.Expr) : SimpM (Lean.Expr × Lean.Expr) := do
 let b := b.headBeta
 let d ← zq9wh b
 if zq9isT9 d || zq9isF9 d then return (d, ← mkExpectedTypeHint (← mkEqRefl d) (← mkEq b d))
 let r ← zq9sm b
 let r' ← if zq9isT9 r.expr || zq9isF9 r.expr then pure r.expr else do
  let d ← zq9wh r.expr
  pure (if zq9isT9 d || zq9isF9 d then d else r.expr)
 return (r', ← mkExpectedTypeHint (← r.getProof) (← mkEq b r'))
def zq9atRoot (o : Lean.Expr) : SimpM (Option Simp.Result) := withReducible do
 match ← Simp.rewritePost false o with
 | .visit r => return some r
 | .done r => return some r
 | .continue (some r) => return some r
 | .continue none => return none

def zq9evOx (o v : Lean.Expr) (r : Simp.Result) : SimpM (Option (Lean.Expr × Lean.Expr)) := do
 let v' ← if (← inferType v).isConstOf ``PV then zq9nVal v else pure v
 unless v'.isAppOfArity ``PV.bl 1 do return some (v', ← zq9prf r o (mkApp r.expr.appFn! v'))
 let (b', p) ← zq9evB v'.appArg!
 let f := mkLambda `x .default (mkConst ``Bool) (mkApp r.expr.appFn! (mkApp (mkConst ``PV.bl) (Lean.Expr.bvar 0)))
 let d := mkApp (mkConst ``PV.bl) b'
 return some (d, ← mkEqTrans (← r.getProof) (← mkExpectedTypeHint (← mkCongrArg f p) (← mkEq r.expr (mkApp r.expr.appFn! d))))

def zq9evOy (o : Lean.Expr) : SimpM (Option (Lean.Expr × Lean.Expr)) := do
 let r ← zq9sm o
 let d ← if (zq9someArg? r.expr).isSome then pure r.expr else zq9wh r.expr
 match zq9someArg? d with
 | some v => return some (v, ← zq9prf r o d)
 | none => return none

def zq9evOz (o d b : Lean.Expr) (k : Bool) : SimpM (Option (Lean.Expr × Lean.Expr)) := do
 let f := fun x => if k then x else mkApp (mkConst ``PV.bl) x
 let (b', p) ← zq9evB b
 return some (f b', ← mkExpectedTypeHint (← mkCongrArg (mkLambda `x .default (mkConst ``Bool) (mkApp d.appFn! (f (Lean.Expr.bvar 0)))) p) (← mkEq o (mkApp d.appFn! (f b'))))
def zq9evO (o : Lean.Expr) : SimpM (Option (Lean.Expr × Lean.Expr)) := do
 let o := o.headBeta
 if let some r ← zq9atRoot o then
  if let some v := zq9someArg? r.expr then return ← zq9evOx o v r
 let d ← zq9wh o
 let some v := zq9someArg? d | zq9evOy o
 let ty ← inferType v
 if ty.isConstOf ``b8 then
  let v ← zq9nSta v
  return some (v, ← zq9rflT o (mkApp d.appFn! v))
 let k := ty.isConstOf ``Bool
 let v := v.headBeta
 let v ← if ty.isConstOf ``PV then zq9nVal v else pure v
 unless k || v.isAppOfArity ``PV.bl 1 do return some (v, ← zq9rflT o (mkApp d.appFn! v))
 let b := if k then v else v.appArg!
 let b' ← zq9wh b
 if zq9isT9 b' || zq9isF9 b' then
  let w := if k then b' else mkApp (mkConst ``PV.bl) b'
  return some (w, ← zq9rflT o (mkApp d.appFn! w))
 let some (v', p) ← zq9evOy o | zq9evOz o d b k
 let c := if v'.isAppOfArity ``PV.bl 1 then v'.appArg! else v'
 if zq9isT9 c || zq9isF9 c || (zq9someArg? (← zq9sm o).expr).isSome then return some (v', p)
 zq9evOz o d b k
def zq9okE (α a st : Lean.Expr) : Lean.Expr :=
 let rs := mkApp (mkConst ``Rs) α
 let pr := mkApp2 (mkConst ``Prod [0, 0]) rs (mkConst ``b8)
 mkApp2 (mkConst ``Option.some [0]) pr (mkApp4 (mkConst ``Prod.mk [0, 0]) rs (mkConst ``b8) (mkApp2 (mkConst ``Rs.ok) α a) st)
def zq9okH (a h : Lean.Expr) : Lean.Expr :=
 let rs := mkApp (mkConst ``Rs) (mkConst ``PV)
 let lc := mkApp (mkConst ``List [0]) (mkConst ``aj)
 let pr := mkApp2 (mkConst ``Prod [0, 0]) rs lc
 mkApp2 (mkConst ``Option.some [0]) pr (mkApp4 (mkConst ``Prod.mk [0, 0]) rs lc (mkApp2 (mkConst ``Rs.ok) (mkConst ``PV) a) h)
def zq9okArgs? (r : Lean.Expr) : Option (Lean.Expr × Lean.Expr) := do
 let x ← zq9someArg? r
 guard (x.isAppOfArity ``Prod.mk 4)
 let y := x.appFn!.appArg!
 guard (y.isAppOfArity ``Rs.ok 2)
 return (y.appArg!, x.appArg!)
def zq9nRes (e : Lean.Expr) : MetaM (Option Lean.Expr) := do
 let d ← zq9wh e
 let some x := zq9someArg? d | return none
 let x ← zq9wh x
 unless x.isAppOfArity ``Prod.mk 4 do return none
 let y ← zq9wh (x.appFn!.appArg!)
 let st ← zq9nSta x.appArg!
 let y ← if y.isAppOfArity ``Rs.ok 2 then (do let v ← (do let v := y.appArg!.headBeta; if (← inferType v).isConstOf ``PV then zq9nVal v else zq9wh v); pure (mkApp y.appFn! v)) else pure y
 return some (mkApp d.appFn! (mkApp2 x.appFn!.appFn! y st))

def zq9okV (a s : Lean.Expr) : Lean.Expr := zq9okE (mkConst ``PV) a s

def zq9okR9 (r : Lean.Expr) : SimpM (Lean.Expr × Lean.Expr) := match zq9okArgs? r with
 | some x => return x
 | none => zq9er

def zq9evP (o : Lean.Expr) : SimpM (Lean.Expr × Lean.Expr) := do
 match ← zq9evO o with
 | some x => return x
 | none => zq9er

def zq9nRs (e : Lean.Expr) : SimpM Lean.Expr := do
 match ← zq9nRes e with
 | some x => return x
 | none => zq9er
def zq9evUnfold : List Lean.Name := [``op2, ``i7, ``Pc, ``KN, ``toB, ``vH, ``Ku, ``ow, ``qF, ``onK, ``qI, ``lZ, ``Gz, ``BV, ``chain, ``O9, ``Xq, ``Pa, ``PF, ``GG, ``cutE, ``PH, ``Ee, ``Xs, ``Ll, ``Jt, ``tyG, ``AL, ``SA, ``P0, ``Cf, ``QA, ``Qs, ``Lg, ``Zm, ``Lm, ``Cr, ``Nf, ``DO, `aev, ``Lq]
def zq9mkLe (a b : Lean.Expr) : MetaM (Option Lean.Expr) := do
 let p ← mkAppM ``LE.le #[a, b]
 let d ← mkAppM ``Decidable.decide #[p]
 let r ← zq9wh d
 if zq9isT9 r then return some (← mkAppM ``of_decide_eq_true #[← mkExpectedTypeHint (← mkEqRefl (mkConst ``Bool.true)) (← mkEq d (mkConst ``Bool.true))]) else return none
def zq9byS (p : Lean.Expr) : SimpM (Option Lean.Expr) := do
 let r ← zq9sm p
 if r.expr.isTrue then return some (← mkOfEqTrue (← r.getProof)) else return none
def zq9evE (go : Lean.Expr → SimpM (Lean.Expr × Lean.Expr)) (bd p h : Lean.Expr) : SimpM (Lean.Expr × Lean.Expr) := do
 let as := bd.getAppArgs
 let ρ := as.back!
 let st := mkApp2 (mkConst ``b8.mk) ρ h
 let (st1, pt) ← zq9evP (mkApp2 as[0]! p st)
 if bd.isAppOf ``oC then
  let (r1, p1) ← go (mkApp as[1]! st1)
  let (v, s2) ← zq9okR9 r1
  let q := zq9mkn ``Q8 #[as[0]!, as[1]!, ρ, p, v, h, st1, s2.appFn!.appArg!, s2.appArg!, pt, p1]
  let r ← zq9eqR q
  return (r, q)
 else
  let (r1, p1) ← go (mkApp as[1]! st1)
  let (b, st2) ← zq9okR9 r1
  if zq9isF9 b then
   let q ← mkAppM ``e2F #[pt, p1]
   let r ← zq9eqR q
   return (r, q)
  else if zq9isT9 b then
   let (_, p2) ← go (mkApp as[2]! st2)
   let q ← mkAppM ``e2T #[pt, p1, p2]
   let r ← zq9eqR q
   return (r, q)
  else zq9er
def zq9evL (go : Lean.Expr → SimpM (Lean.Expr × Lean.Expr)) (bd h : Lean.Expr) : Nat → Lean.Expr → SimpM Lean.Expr
 | 0, _ => zq9er
 | m + 1, ps => do
  let d ← zq9wh ps
  if d.isAppOf ``List.nil then mkAppOptM ``SJ #[some bd, some h]
  else if d.isAppOfArity ``List.cons 3 then
   let (_, p) ← zq9evE go bd d.appFn!.appArg!.headBeta h
   let p2 ← zq9evL go bd h m d.appArg!
   mkAppM ``rp #[p, p2]
  else zq9er
def zq9evC (go : Lean.Expr → SimpM (Lean.Expr × Lean.Expr)) (bd ps h : Lean.Expr) : SimpM Lean.Expr := do
 if let some r ← zq9atRoot (← mkAppM ``fy #[bd, ps, h]) then
  if (zq9someArg? r.expr).isSome then return ← r.getProof
 let d ← zq9wh ps
 if d.isAppOf ``List.nil || d.isAppOf ``List.cons then zq9evL go bd h 300 d
 else
  let d := if ps.isAppOfArity ``List.map 4 then ps else d
  unless d.isAppOfArity ``List.map 4 do
   let r ← zq9sm (← mkAppM ``fy #[bd, ps, h])
   if (zq9someArg? r.expr).isSome then return ← r.getProof
   zq9er
  let fn := d.getAppArgs[2]!
  let L := d.appArg!
  let α := d.getAppArgs[0]!
  withLocalDeclD `x α fun x => do
   let mem ← mkAppM ``Membership.mem #[L, x]
   withLocalDeclD `hx mem fun hx => do
    let thms ← (← Simp.getContext).simpTheorems.addTheorem (.fvar hx.fvarId!) hx
    Simp.withSimpTheorems thms do
     let (r, p) ← zq9evE go bd (mkApp fn x).headBeta h
     let some v := zq9someArg? r | zq9er
     let o := v.appFn!.appArg!
     match zq9someArg? o with
     | some q =>
      let q ← mkLambdaFVars #[x] q
      mkAppOptM ``ED #[some α, some fn, some q, some h, some bd, some L, some (← mkLambdaFVars #[x, hx] p)]
     | none => zq9er

def zq9evLeaf (e : Lean.Expr) : SimpM (Lean.Expr × Lean.Expr) := do
 let r ← zq9sm e
 let x ← zq9nRs r.expr
 return (x, ← zq9prf r e x)

def zq9evRed (e : Lean.Expr) : SimpM (Lean.Expr × Lean.Expr) := do
 match ← zq9nRes e with
 | some x => return (x, ← mkExpectedTypeHint (← mkEqRefl x) (← mkEq e x))
 | none => zq9evLeaf e

def zq9evB1 (go : Lean.Expr → SimpM (Lean.Expr × Lean.Expr)) (c : Lean.Name) (f e : Lean.Expr) (as : Array Lean.Expr) : SimpM (Lean.Expr × Lean.Expr) := do
 let (r, p) ← go (mkApp as[2]! as[4]!)
 let (a, st) ← zq9okR9 r
 let (r2, p2) ← go (mkApp2 as[3]! a st).headBeta
 return (r2, zq9mkn ``acf #[as[0]!, as[1]!, as[2]!, as[3]!, as[4]!, st, a, r2, p, p2])

def zq9evB2 (go : Lean.Expr → SimpM (Lean.Expr × Lean.Expr)) (c : Lean.Name) (f e : Lean.Expr) (as : Array Lean.Expr) : SimpM (Lean.Expr × Lean.Expr) := do
 if as[0]!.isConstOf ``Bool && !(zq9isT9 as[1]! || zq9isF9 as[1]!) then
  let (b, p) ← zq9evB as[1]!
  let f := mkLambda `x .default (mkConst ``Bool) (zq9okE as[0]! (Lean.Expr.bvar 0) as[2]!)
  return (zq9okE as[0]! b as[2]!, ← mkExpectedTypeHint (← mkCongrArg f p) (← mkEq e (zq9okE as[0]! b as[2]!)))
 let x := zq9okE as[0]! as[1]! as[2]!
 return (x, ← zq9rflT e x)

def zq9evB3 (go : Lean.Expr → SimpM (Lean.Expr × Lean.Expr)) (c : Lean.Name) (f e : Lean.Expr) (as : Array Lean.Expr) : SimpM (Lean.Expr × Lean.Expr) := do
 let some (_, b, _) := as[1]!.eq? | zq9er
 let (b', p) ← zq9evB b
 if zq9isT9 b' then
  let (r, p2) ← go (mkApp as[3]! as[5]!)
  let α := (← zq9wh as[0]!).bindingBody!.appArg!.appFn!.appArg!.appArg!
  return (r, zq9mkn ``aeD #[α, b, as[3]!, as[4]!, as[5]!, r, p, p2])
 else if zq9isF9 b' then
  let (r, p2) ← go (mkApp as[4]! as[5]!)
  let α := (← zq9wh as[0]!).bindingBody!.appArg!.appFn!.appArg!.appArg!
  return (r, zq9mkn ``aeE #[α, b, as[3]!, as[4]!, as[5]!, r, p, p2])
 else zq9er

def zq9evB4 (go : Lean.Expr → SimpM (Lean.Expr × Lean.Expr)) (c : Lean.Name) (f e : Lean.Expr) (as : Array Lean.Expr) : SimpM (Lean.Expr × Lean.Expr) := do
 let st := mkApp2 (mkConst ``b8.mk) (← zq9nList true 200 (mkApp2 (mkConst ``gk) as[1]! as[2]!)) as[3]!
 let (r, p) ← go (mkApp as[0]! st)
 let (a, s1) ← zq9okR9 r
 let h1 := if s1.isAppOfArity ``b8.mk 2 then s1.appArg! else mkApp (mkConst ``b8.h) s1
 if a.isAppOf ``dJ.rt then return (zq9okH a.appArg! h1, zq9mkn ``wI #[as[0]!, as[1]!, as[2]!, as[3]!, a.appArg!, s1, p])
 else if a.isConstOf ``dJ.nx then return (zq9okH (mkConst ``PV.aL) h1, zq9mkn ``aan #[as[0]!, as[1]!, as[2]!, as[3]!, s1, p])
 else zq9er

def zq9evB5 (go : Lean.Expr → SimpM (Lean.Expr × Lean.Expr)) (c : Lean.Name) (f e : Lean.Expr) (as : Array Lean.Expr) : SimpM (Lean.Expr × Lean.Expr) := do
 let k := if c == ``mB then 1 else 0
 let (ρ, h) ← zq9stH as[3 + k]!
 let as' ← zq9nList false 50 as[2 + k]!
 let q ← mkAppM ``Bool.or #[← mkAppM ``List.isEmpty #[h], ← mkAppM ``ao #[as']]
 let q ← if k == 1 then mkAppM ``and #[← mkAppM ``BEq.beq #[as[0]!, mkNatLit 0], q] else pure q
 let (b, pb) ← zq9evB q
 let hl ← mkExpectedTypeHint (← mkEqRefl as[k]!) (← mkEq (← mkAppM ``List.length #[as']) as[k]!)
 if zq9isT9 b then
  let q0 ← mkAppM ``Bool.or #[← mkAppM ``List.isEmpty #[h], ← mkAppM ``ao #[as']]
  let (_, pb0) ← zq9evB q0
  let cl := mkApp2 as[1 + k]! as' (← mkAppOptM ``List.nil #[some (mkConst ``aj)])
  let (r, p) ← go cl
  let some (v, h') := zq9okArgs? r | zq9er
  let fz := mkApp2 (mkConst ``iu) h' v
  let (qv, pf) ← zq9evP fz
  return (zq9okV qv as[3 + k]!, mkAppN (mkConst (if k == 1 then ``aao else ``CI)) #[as[k]!, as[1 + k]!, as', as[3 + k]!, v, qv, h', pb0, hl, p, pf])
 else if zq9isF9 b && k == 1 then
  let (r, p) ← go (mkApp2 as[2]! as' h)
  let some (v, h') := zq9okArgs? r | zq9er
  return (zq9okV v (zq9mkS ρ h'), zq9mkn ``XM #[as[0]!, as[1]!, as[2]!, as', as[4]!, v, h', pb, hl, p])
 else zq9er

def zq9evB6 (go : Lean.Expr → SimpM (Lean.Expr × Lean.Expr)) (c : Lean.Name) (f e : Lean.Expr) (as : Array Lean.Expr) : SimpM (Lean.Expr × Lean.Expr) := do
 unless zq9isLit as[2]! 300 || as[2]!.isAppOf ``List.cons do
  let r ← zq9sm e
  if (zq9someArg? r.expr).isSome then
   let x ← zq9nRs r.expr
   return (x, ← zq9prf r e x)
 let ps ← zq9wh as[2]!
 if ps.isAppOf ``List.cons || ps.isAppOf ``List.nil then
  let some d ← withDefault (unfoldDefinition? (mkAppN f #[as[0]!, as[1]!, ps, as[3]!])) | zq9er
  let (r, p) ← go (← whnfCore d)
  return (r, ← mkExpectedTypeHint p (← mkEq e r))
 else zq9evLeaf e

def zq9evB7 (go : Lean.Expr → SimpM (Lean.Expr × Lean.Expr)) (c : Lean.Name) (f e : Lean.Expr) (as : Array Lean.Expr) : SimpM (Lean.Expr × Lean.Expr) := do
 let (r, p) ← go (mkApp as[2]! as[4]!)
 let (src, st) ← zq9okR9 r
 unless src.isAppOf ``Cg.sq do zq9er
 let ps0 := src.appArg!
 let (ps, p) ← if ps0.isAppOf ``List.map || zq9isLit ps0 300 then pure (ps0, p) else (do
  let r ← zq9sm ps0
  let lt := mkApp (mkConst ``List [0]) (mkConst ``PV)
  let lam := mkLambda `l .default lt (zq9okE (mkConst ``Cg) (mkApp (mkConst ``Cg.sq) (Lean.Expr.bvar 0)) st)
  return (r.expr, ← mkEqTrans p (← mkCongrArg lam (← r.getProof))))
 let ρ ← zq9nList true 100 (mkApp2 (mkConst ``dq) as[1]! st.appFn!.appArg!)
 let bd := mkApp as[3]! ρ
 let h := st.appArg!
 let le ← mkAppM ``LE.le #[← mkAppM ``List.length #[ps], mkNatLit 4000000]
 let hl ← match ← zq9mkLe (← mkAppM ``List.length #[ps]) (mkNatLit 4000000) with
  | some p => pure p
  | none => match ← zq9byS le with | some p => pure p | none => zq9er
 let hc ← zq9evC go bd ps h
 let rc ← zq9eqR hc
 let x := rc.appArg!
 let qs := x.appFn!.appArg!
 return (zq9okV (mkApp (mkConst ``PV.lst) qs) (zq9mkS st.appFn!.appArg! x.appArg!), zq9mkn ``aap #[as[1]!, as[2]!, as[3]!, as[4]!, st, ps, qs, x.appArg!, p, hl, hc])

def zq9evB8 (go : Lean.Expr → SimpM (Lean.Expr × Lean.Expr)) (c : Lean.Name) (f e : Lean.Expr) (as : Array Lean.Expr) : SimpM (Lean.Expr × Lean.Expr) := do
 let (ρ, h) ← zq9stH as[3]!
 let as' ← zq9nList false 50 as[2]!
 let hl ← mkExpectedTypeHint (← mkEqRefl as[0]!) (← mkEq (← mkAppM ``List.length #[as']) as[0]!)
 let (r, p) ← go (mkApp2 as[1]! as' h)
 let some (v, h') := zq9okArgs? r | zq9er
 return (zq9okV v (zq9mkS ρ h'), zq9mkn ``XN #[as[0]!, as[1]!, as', as[3]!, v, h', hl, p])

def zq9evB9 (go : Lean.Expr → SimpM (Lean.Expr × Lean.Expr)) (c : Lean.Name) (f e : Lean.Expr) (as : Array Lean.Expr) : SimpM (Lean.Expr × Lean.Expr) := do
 let (ρ, h) ← zq9stH as[4]!
 let l ← zq9nList false 50 as[3]!
 let hl ← mkExpectedTypeHint (← mkEqRefl as[1]!) (← mkEq (← mkAppM ``HAdd.hAdd #[← mkAppM ``List.length #[l], mkNatLit 1]) as[1]!)
 let cell := mkApp2 (mkConst ``aj.mk) (mkApp2 (mkConst ``Kd.ins) as[0]! (mkApp (mkConst ``List.nil [0]) (mkConst ``PySem.Str))) (mkApp (mkConst ``List.nil [0]) (mkConst ``PV))
 let h1 ← mkAppM ``HAppend.hAppend #[h, zq9one cell]
 let me := mkApp (mkConst ``PV.ref) (← mkAppM ``List.length #[h])
 let (r, p) ← go (mkApp2 as[2]! (mkApp3 (mkConst ``List.cons [0]) (mkConst ``PV) me l) h1)
 let some (_, h') := zq9okArgs? r | zq9er
 return (zq9okV me (zq9mkS ρ h'), zq9mkn ``aaq #[as[0]!, as[1]!, as[2]!, l, as[4]!, h', hl, p])

def zq9evB10 (go : Lean.Expr → SimpM (Lean.Expr × Lean.Expr)) (c : Lean.Name) (f e : Lean.Expr) (as : Array Lean.Expr) : SimpM (Lean.Expr × Lean.Expr) := do
 let (r, p) ← go (mkApp as[0]! as[1]!)
 let (v, s1) ← zq9okR9 r
 let v ← zq9nVal v
 unless v.isAppOfArity ``PV.nd 2 do zq9er
 let ps := v.appArg!
 let (cl, pc) ← zq9evP (mkApp (mkConst ``Hq) ps)
 let (ρ, h) ← zq9stH s1
 let h ← zq9stripH 60 h
 let h1 ← mkAppM ``HAppend.hAppend #[h, zq9one cl]
 let me := mkApp (mkConst ``PV.ref) (← mkAppM ``List.length #[h])
 return (zq9okV me (zq9mkS ρ h1), zq9mkn ``aar #[as[0]!, as[1]!, s1, ps, cl, p, pc])

def zq9evB11 (go : Lean.Expr → SimpM (Lean.Expr × Lean.Expr)) (c : Lean.Name) (f e : Lean.Expr) (as : Array Lean.Expr) : SimpM (Lean.Expr × Lean.Expr) := do
 let (r, p) ← go (mkApp as[1]! as[4]!)
 let (b, s1) ← zq9okR9 r
 if zq9isT9 b || zq9isF9 b then
  let t := zq9isT9 b
  let (r2, p2) ← go (mkApp (if t then as[2]! else as[3]!) s1)
  return (r2, mkAppN (mkConst (if t then ``aal else ``aam)) #[as[0]!, as[1]!, as[2]!, as[3]!, as[4]!, s1, r2, p, p2])
 else zq9er
def zq9ev : Nat → Lean.Expr → SimpM (Lean.Expr × Lean.Expr)
 | 0, e => zq9er
 | n + 1, e => do
  let e := e.headBeta
  let f := e.getAppFn
  let as := e.getAppArgs
  match f with
  | .const c _ =>
   if c == ``bnd && as.size == 5 then
    zq9evB1 (zq9ev n) c f e as
   else if c == ``cD && as.size == 3 then
    zq9evB2 (zq9ev n) c f e as
   else if c == ``jd && as.size == 3 then
    let (v, p) ← zq9evP as[1]!
    return (zq9okE as[0]! v as[2]!, zq9mkn ``acd #[as[0]!, as[1]!, v, as[2]!, p])
   else if c == ``hp && as.size == 3 then
    let (ρ, h) ← zq9stH as[2]!
    let (v, p) ← zq9evP (mkApp as[1]! h).headBeta
    return (zq9okE as[0]! v as[2]!, zq9mkn ``aeC #[as[0]!, as[1]!, v, as[2]!, p])
   else if c == ``stp && as.size == 2 then
    let (v, p) ← zq9evP (mkApp as[0]! as[1]!).headBeta
    return (zq9okE (mkConst ``dJ) (mkConst ``dJ.nx) v, zq9mkn ``ace #[as[0]!, as[1]!, v, p])
   else if c == ``ite && as.size == 6 then
    zq9evB3 (zq9ev n) c f e as
   else if c == ``gW && as.size == 4 then
    zq9evB4 (zq9ev n) c f e as
   else if (c == ``mB && as.size == 5) || (c == ``jM && as.size == 4) then
    zq9evB5 (zq9ev n) c f e as
   else if c == ``gj && as.size == 4 then
    zq9evB6 (zq9ev n) c f e as
   else if c == ``jL && as.size == 5 && zq9isF9 as[0]! then
    zq9evB7 (zq9ev n) c f e as
   else if c == ``ig && as.size == 4 then
    zq9evB8 (zq9ev n) c f e as
   else if c == ``LF && as.size == 5 then
    zq9evB9 (zq9ev n) c f e as
   else if c == ``Lq && as.size == 2 then
    zq9evB10 (zq9ev n) c f e as
   else if c == ``run || c == ``SH then zq9evLeaf e
   else if c == ``ow && as.size == 5 && as[0]!.isConstOf ``Bool && (as[2]!.isAppOf ``cD || as[3]!.isAppOf ``cD) then
    zq9evB11 (zq9ev n) c f e as
   else if zq9evUnfold.contains c then
    let some d ← withDefault (unfoldDefinition? e) | zq9evRed e
    zq9ev n (← whnfCore d)
   else
    let some d ← withDefault (unfoldDefinition? e) | zq9evRed e
    let d ← withReducible (whnf d)
    match d.getAppFn with
    | .const c' _ =>
     if c' == ``bnd || c' == ``cD || zq9evUnfold.contains c' then
      let (r, p) ← zq9ev n d
      return (r, ← mkExpectedTypeHint p (← mkEq e r))
     else zq9evRed e
    | _ => zq9evRed e
  | .fvar _ => zq9evLeaf e
  | _ => zq9evRed e
simproc_decl fA (gx _ _) := fun e => do
 let as := e.getAppArgs
 let (r, p) ← zq9ev 400 (mkApp as[1]! as[2]!)
 return .done { expr := r, proof? := zq9mkn ``acg #[as[0]!, as[1]!, as[2]!, r, p] }
simproc_decl bM (gW _ _ _ _) := fun e => do
 let (r, p) ← zq9ev 400 e
 return .done { expr := r, proof? := p }
end
end L2.U
namespace bI
open PySem L2 L2.U
theorem CL(c:Nat)(t:Int):run aM (c+1) "place_of" [et t,.int t] []=some (.ok (.int 0),[]):=by
 rw[wA];simp only[↓bM,et,yI,eU];rfl
theorem NB{f:Gx dJ}{st st':b8}{x:dJ}(h:f st=some (.ok x,st')):En f st=some (.ok x,st'):=by
 unfold En;rw[h]
theorem Im(c:Nat)(t:Int):run aM (c+2) "read_by" [et t,.int t] []=some (.ok (et t),[]):=by
 have e1:=CL c t;rw[yC];simp only[↓bM,e1];rfl
theorem Io(c:Nat)(t:Int):run aM (c+2) "written_by" [et t,.int t] []=some (.ok (et t),[]):=by
 have e1:=CL c t;rw[rf];simp only[↓bM,e1];rfl
theorem Bh(c:Nat)(t x:Int){w:Str}(hw:w="read"\/w="write"):run aM (c+3) "pile_behind" [et t,.str w,.int t,.int x] []=some (.ok (et t),[]):=by
 have e1:=Im c t;have e2:=Io c t;have nr:ao [et t,.int t]=true:=rfl;rw[oN];refine wI (st':=⟨[some (et t),some (.str w),some (.int t),some (.int x)],[]⟩) (NB ?_);rcases hw with rfl | rfl
 ·refine aY ?_;simp only[↓fA,e1,nr]
 ·refine aY ?_;simp only[↓fA,e2,nr]
end bI
set_option maxHeartbeats 4000000
namespace bI
open PySem L2 L2.U
abbrev Pl:Type:=List (Nat×PV)
noncomputable def ly(P:Pl):List PV:=P.map λx=>.ref x.1
def cS(P:Pl):PV:=.lst (P.map λx=>x.2)
noncomputable def mG(x:Str):bP×List bP:=(.inr x,[])
def xh(h:List aj)(g:Nat)(P:Pl):Prop:=∃t,h[g]?=some (Jv (ly P) t)/\∀x∈P,∃m,h[x.1]?=some (jj m t x.2)
def oP(H:List (Str×Nat×Pl)):aj:=⟨.eS false (H.map λe=>mG e.1),H.map λe=>.ref e.2.1⟩
noncomputable abbrev pf(j:Int)(d:Nat)(r:Int):aj:=⟨.ins "Frame" ["at","has","row"],[.int j,.ref d,.int r]⟩
structure Ac where
 w:Str
 x:Str
 t:Bool
 f:Nat
 m:Nat
 k:Str
def cL(k:Nat)(a:Ac):PV:=.au [.int (k:Int),.str a.w,.str a.x,.bl a.t,.int (a.f:Int),.int (a.m:Int),.str a.k]
def jU(a:Ac):PV:=.au [.str a.w,.str a.x,.bl a.t,.int (a.f:Int),.int (a.m:Int),.str a.k]
theorem um{x:Str}:∀{H:List (Str×Nat×Pl)} {P:Nat×Pl},H.lookup x=some P->gZ (mG x) (H.map λe=>mG e.1) (H.map λe=>.ref e.2.1)=some (.ref P.1)
 | [],_,e=>by cases e
 | (y,Q)::H,P,e=>by
  show(if mG y=mG x then some (.ref Q.1)else gZ (mG x) (H.map λe=>mG e.1) (H.map λe=>.ref e.2.1))=_
  rw[dv]at e;by_cases h:x=y
  ·subst h;rw[if_pos rfl];rw[eU]at e;cases e;rfl
  ·rw[if_neg (λz=>h (by unfold mG at z;injection z with z1 _;injection z1 with z2;exact z2.symm))]
   rw[fE.mpr h]at e;exact um e
theorem lz{h:List aj}{d:Nat}{H:List (Str×Nat×Pl)}{x:Str}{P:Nat×Pl}(e:h[d]?=some (oP H))(l:H.lookup x=some P):bu h (.ref d) (.str x)=some (.ref P.1):=by
 have e1:=ak (k:=.eS false (H.map λe=>mG e.1)) (ps:=H.map λe=>.ref e.2.1) e rfl
 simp only[bu,e1];exact um l
theorem CM{h:List aj}{k:Nat}{a:Ac}:bu h (cL k a) (.int 2)=some (.str a.x):=rfl
theorem Wh{h:List aj}{k:Nat}{a:Ac}:bu h (cL k a) (.int 4)=some (.int (a.f:Int)):=rfl
theorem Wi{h:List aj}{k:Nat}{a:Ac}:bu h (cL k a) (.int 5)=some (.int (a.m:Int)):=rfl
theorem uo{h:List aj}{k:Nat}{a:Ac}:bu h (cL k a) (.int 1)=some (.str a.w):=rfl
theorem LU{α:Type}(f:α->PV)(P:List α)(a m:Nat)(hm:a+m<=P.length):je (P.map f) (some (a:Int)) (some ((a:Int)+(m:Int)))=((P.drop a).take m).map f:=by
 unfold je;have e:((a:Int)+(m:Int))=((a+m:Nat):Int):=rfl;rw[e,HT.oX,HT.oX,aT,uZ (by lia),uZ (by lia),Nat.add_sub_cancel_left,vi,vd]
noncomputable def aF(H:List (Str×Nat×Pl))(a:Ac):Pl:=(((H.lookup a.x).map λP=>P.2).getD []).drop a.f |>.take a.m
structure lH (h:List aj) (fi d:Nat) (j r:Int) (H:List (Str×Nat×Pl)):Prop where
 f:h[fi]?=some (pf j d r)
 d:h[d]?=some (oP H)
 p:∀e∈H,xh h e.2.1 e.2.2
 l:∀e∈H,e.2.2.length<=1000
def oQ(H:List (Str×Nat×Pl))(a:Ac):Prop:=∃P,H.lookup a.x=some P/\a.f+a.m<=P.2.length
theorem nP{H:List (Str×Nat×Pl)}{x:Str}{P:Nat×Pl}:H.lookup x=some P->(x,P)∈H:=fX
theorem lA{H:List (Str×Nat×Pl)}{a:Ac}{P:Nat×Pl}(l:H.lookup a.x=some P):aF H a=(P.2.drop a.f).take a.m:=by unfold aF;rw[l];rfl
theorem Q9(c:Nat){h:List aj}{fi d k:Nat}{j r:Int}{H:List (Str×Nat×Pl)}{a:Ac}(R:lH h fi d j r H)(ft:oQ H a) :
  run aM (c+1) "boxes_of" [.ref fi,cL k a] h=some (.ok (.lst (ly (aF H a))),h):=by
 obtain⟨P,l,hm⟩:=ft;rw[lA l];rw[wB];have d1:=ak R.f rfl;have i1:=lz R.d l;obtain⟨t,g1,g2⟩:=R.p _ (nP l);have g1:h[P.1]?=some (Jv (ly P.2) t):=g1;have d2:=ak g1 rfl;simp only[↓bM,d1,d2,i1,CM,Wh,Wi,ly,LU _ P.2 a.f a.m hm]
theorem rA{H:List (Str×Nat×Pl)}{a:Ac}{h:List aj}{fi d:Nat}{j r:Int}(R:lH h fi d j r H)(ft:oQ H a):∃g Q t,bu h (.ref d) (.str a.x)=some (.ref g)/\h[g]?=some (Jv Q t)/\∀x∈aF H a,∃m,h[x.1]?=some (jj m t x.2):=by
 obtain⟨P,l,hm⟩:=ft;obtain⟨t,g1,g2⟩:=R.p _ (nP l);refine⟨P.1,_,t,lz R.d l,g1,λx hx=>g2 x ?_⟩
 rw[lA l]at hx;exact uP (uO hx)
theorem Ip(c:Nat){h:List aj}{fi d k:Nat}{j r:Int}{H:List (Str×Nat×Pl)}{a:Ac}(R:lH h fi d j r H)(ft:oQ H a):run aM (c+1) "check_held" [.ref fi,cL k a] h=some (.ok .aL,h):=by
 obtain⟨g,Q,t,i1,_,_⟩:=rA R ft;have d1:=ak R.f rfl;rw[rh];simp only[↓bM,d1,i1,CM]
def Tw(a:Ac):Prop:=a.w="read"\/a.w="fill"\/a.w="turn"
theorem Rb(c k:Nat){a:Ac}(h:Tw a):run aM (c+1) "asks_for_full" [cL k a] []=some (.ok (.bl (!(a.w=="fill"))),[]):=by
 obtain⟨w,x,t,f,m,tk⟩:=a;have h:w="read"\/w="fill"\/w="turn":=h;rcases h with rfl | rfl | rfl<;>kernel_rfl
theorem nZ(k:Nat)(a:Ac):noRef (cL k a)=true:=by simp[cL,noRef,ao]
end bI
set_option maxHeartbeats 4000000
namespace bI
open PySem L2 L2.U
theorem dS{h:List aj}{i j:Nat}{c d:aj}(e:h[i]?=some c)(f:h[j]?=some d)(n:c≠d):i≠j:=by
 intro z;subst z;rw[e]at f;exact n (aZ f)
theorem LV(c:Nat){g:List aj}{fi d q k n:Nat}{j r m t:Int}{a:Ac}{L:List PV}{x:Nat×PV}(W:Wd g (n+1))(hf:g[fi]?=some (pf j d r))(hq:g[q]?=some ⟨.lst,L⟩)(hx:g[x.1]?=some (jj m t x.2))(q1:q≠1)(hw:Tw a)(hv:a.w≠"fill"->ej x.2=false)(hL:L.length<=4000){x7:Option PV} :
  ∃g',aK (run aM (c+4)) ⟨[some (.ref 0),some (.ref fi),some (cL k a),some (.int (-1)),some (.ref q),some (.int t),some (.ref x.1),x7],g⟩=some (.ok .nx,⟨[some (.ref 0),some (.ref fi),some (cL k a),some (.int (-1)),some (.ref q),some (.int t),some (.ref x.1),some (et t)],g'⟩)/\Ch g g' [1,q]/\Wd g' n/\g'[q]?=some ⟨.lst,L++[x.2]⟩:=by
 have⟨nb,nt,_,h0,_,_⟩:=W;obtain⟨es,h1,hl,W1⟩:=Wd.add (v:=.au [.int j,.int r,.str (if a.w="read" then "read" else "write"),.int m,.int t,.int (-1)]) W
 have ap:=λρ v=>fg (ρ:=ρ) (v:=v) h1 hl
 have x1:x.1≠1:=dS hx h1 (by intro z;cases z)
 obtain⟨g1,n8⟩:∃g1,g1=g.set 1 ⟨.lst,es++[.au [.int j,.int r,.str (if a.w="read" then "read" else "write"),.int m,.int t,.int (-1)]]⟩:=⟨_,rfl⟩
 rw[<-n8]at W1;have c1:Ch g g1 [1]:=by rw[n8];exact Ch.set _
 have bx:=c1.get hx (by simp;exact x1)
 have qx:=c1.get hq (by simp;exact q1)
 have d0:=ak h0 rfl;have d1:=ak h1 rfl;have df:=ak hf rfl;have db:=ak hx rfl;have Rc:=ak bx rfl;have Wj:=ak qx rfl;have pp:=λρ=>yH (ρ:=ρ) bx
 have aq:=λρ v=>fg (ρ:=ρ) (v:=v) qx (by lia)
 have pr:=Bh (c+1) t (-1) (w:="read") (.inl rfl);have pw:=Bh (c+1) t (-1) (w:="write") (.inr rfl);have Wk:∀w:Str,ao [et t,.str w,.int t,.int (-1)]=true:=λ_=>rfl
 have Wl:ao [cL k a]=true:=by simp[ao,nZ]
 have as:=Rb (c+3) k hw;have iso:∀h,Sy h x.2 .aL=some (.bl (ej x.2)):=λh=>rfl
 have hE:=fx hx;have oR:=fx bx;refine⟨g1.set q ⟨.lst,L++[x.2]⟩,?_,?_,W1.ch (Ch.set _) ?_,cC qx⟩
 ·rcases hw with h | h | h
  ·have e1:∀h,bu h (cL k a) (.int 1)=some (.str "read"):=λ_=>by rw[uo,h]
   rw[h]at as n8;have as:run aM (c+4) "asks_for_full" [cL k a] []=some (.ok (.bl true),[]):=as;have ap:∀ρ,fu (dN fw) (.ref 1) [.au [.int j,.int r,.str "read",.int m,.int t,.int (-1)]] ⟨ρ,g⟩=some (.ok .aL,⟨ρ,g1⟩):=λρ=>by rw[n8];exact ap ρ _
   have v:=hv (by rw[h];decide)
   refine aY ?_
   delta aK gy
   simp only[↓fA,d0,d1,df,db,Rc,Wj,e1,ap,pr,Wk,Wl,as,iso,v,pp,aq,hE,oR,bT,bQ]
  ·have e1:∀h,bu h (cL k a) (.int 1)=some (.str "fill"):=λ_=>by rw[uo,h]
   rw[h]at as n8;have as:run aM (c+4) "asks_for_full" [cL k a] []=some (.ok (.bl false),[]):=as;have ap:∀ρ,fu (dN fw) (.ref 1) [.au [.int j,.int r,.str "write",.int m,.int t,.int (-1)]] ⟨ρ,g⟩=some (.ok .aL,⟨ρ,g1⟩):=λρ=>by rw[n8];exact ap ρ _
   refine aY ?_
   delta aK gy
   simp only[↓fA,d0,d1,df,db,Rc,Wj,e1,ap,pw,Wk,Wl,as,iso,pp,aq,hE,oR,bT,bQ]
  ·have e1:∀h,bu h (cL k a) (.int 1)=some (.str "turn"):=λ_=>by rw[uo,h]
   rw[h]at as n8;have as:run aM (c+4) "asks_for_full" [cL k a] []=some (.ok (.bl true),[]):=as;have ap:∀ρ,fu (dN fw) (.ref 1) [.au [.int j,.int r,.str "write",.int m,.int t,.int (-1)]] ⟨ρ,g⟩=some (.ok .aL,⟨ρ,g1⟩):=λρ=>by rw[n8];exact ap ρ _
   have v:=hv (by rw[h];decide)
   refine aY ?_
   delta aK gy
   simp only[↓fA,d0,d1,df,db,Rc,Wj,e1,ap,pw,Wk,Wl,as,iso,v,pp,aq,hE,oR,bT,bQ]
 ·exact Ch.tr (c1.mono (by simp)) (Ch.set _) (by simp)
 ·exact⟨by simp;exact(dS h0 hq (by intro z;cases z)),by simp;exact bU q1⟩
theorem CN(c:Nat){fi d q k:Nat}{j r t:Int}{a:Ac}(q1:q≠1)(hw:Tw a):∀(P:Pl) (g:List aj) (n:Nat) (L:List PV) (x6 x7:Option PV),Wd g (n+P.length)->g[fi]?=some (pf j d r)->g[q]?=some ⟨.lst,L⟩->(∀x∈P,∃m,g[x.1]?=some (jj m t x.2))->(a.w≠"fill"->∀x∈P,ej x.2=false)->L.length+P.length<=4000 ->
  ∃g' y6 y7,gj (dh 6) (aK (run aM (c+4))) (ly P) ⟨[some (.ref 0),some (.ref fi),some (cL k a),some (.int (-1)),some (.ref q),some (.int t),x6,x7],g⟩=some (.ok .nx,⟨[some (.ref 0),some (.ref fi),some (cL k a),some (.int (-1)),some (.ref q),some (.int t),y6,y7],g'⟩)/\Ch g g' [1,q]/\Wd g' n/\g'[q]?=some ⟨.lst,L++P.map (·.2)⟩
 | [],g,n,L,x6,x7,W,hf,hq,hx,hv,hl=>⟨g,x6,x7,rfl,Ch.refl _ _,W,by rw[dZ,c6];exact hq⟩
 | x::P,g,n,L,x6,x7,W,hf,hq,hx,hv,hl=>by
  rw[cq]at hl W;obtain⟨m,hm⟩:=hx x (by simp)
  obtain⟨g1,e1,c1,w1,u1⟩:=LV c (k:=k) (x7:=x7) (n:=n+P.length) (W.mono (by lia)) hf hq hm q1 hw (λh=>hv h x (by simp)) (by lia)
  obtain⟨es,h1,_,_⟩:=Wd.add (v:=.aL) (W.mono (k':=0+1) (by lia))
  have n1:∀{i:Nat} {cc:aj},g[i]?=some cc->(∀l,cc≠⟨.lst,l⟩)->i∉[1,q]:=λe n=>by
   simp only[aG,bG,bH,not_or];exact⟨dS e h1 (n _),dS e hq (n _)⟩
  obtain⟨g2,y6,y7,e2,c2,w2,u2⟩:=CN c (k:=k) (t:=t) q1 hw P g1 n (L++[x.2]) (some (.ref x.1)) (some (et t)) w1 (c1.get hf (n1 hf (by intro l z;cases z))) u1 (λy hy=>by
   obtain⟨m',K4⟩:=hx y (by simp[hy])
   exact⟨m',c1.get K4 (n1 K4 (by intro l z;cases z))⟩) (λh y hy=>hv h y (by simp[hy])) (by simp;lia)
  refine⟨g2,y6,y7,?_,c1.tr c2 (λ_ h _=>h),w2,by rw[u2];simp⟩
  exact fC (s1:=⟨[some (.ref 0),some (.ref fi),some (cL k a),some (.int (-1)),some (.ref q),some (.int t),some (.ref x.1),x7],g⟩) rfl e1 e2
theorem iT{h:List aj}{nb nt:Int}{L:List (Str×(Str×Nat))}{m:Str}(e:h[0]?=some (jk nb nt))(hm:(["entries","boxes_made","tags_made"]:List Str).contains m=false):Em L m (.ref 0) h=L.lookup ("Boxes":Str):=by
 unfold Em LG;rw[ak e rfl];show(if(["entries","boxes_made","tags_made"]:List Str).contains m=true then none else some ("Boxes":Str)).bind (λC=>L.lookup C)=_
 rw[hm,if_neg cw];rfl
theorem CO(c:Nat){h:List aj}{fi d k n:Nat}{j r:Int}{H:List (Str×Nat×Pl)}{a:Ac}(R:lH h fi d j r H)(ft:oQ H a)(hw:Tw a)(hm:a.m<=2)(hv:a.w≠"fill"->∀x∈aF H a,ej x.2=false)(W:Wd h (n+2)) :
  ∃h',run aM (c+6) "Boxes.touch" [.ref 0,.ref fi,cL k a] h=some (.ok (cS (aF H a)),h')/\Ch h h' [1]/\Wd h' n:=by
 have e1:=Ip (c+4) R ft (k:=k);have⟨nb,nt,es,h0,h1,_⟩:=W;have pm:(aF H a).length<=2:=by
  obtain⟨P,l,_⟩:=ft;rw[lA l,kM]
  lia
 obtain⟨g,Q,t,i1,i2,i3⟩:=rA R ft;have qQ:(h++[(⟨.lst,[]⟩:aj)])[h.length]?=some ⟨.lst,[]⟩:=cX;have q1:h.length≠1:=by have:=d8 h1;lia
 obtain⟨h2,y6,y7,e3,c3,w3,u3⟩:=CN c (k:=k) (j:=j) (r:=r) (d:=d) (fi:=fi) (t:=t) (q:=h.length) q1 hw (aF H a) (h++[⟨.lst,[]⟩]) n [] none none ((W.ch (Ch.app h [⟨.lst,[]⟩] []) (by simp)).mono (by lia)) (bJ R.f) qQ (λx hx=>by
  obtain⟨m,hm⟩:=i3 x hx;exact⟨m,bJ hm⟩) hv (by simp;lia)
 have i1':bu (h++[⟨.lst,[]⟩]) (.ref d) (.str a.x)=some (.ref g):=by
  obtain⟨P,l,_⟩:=ft;have e:=lz R.d l;rw[i1]at e;cases e;exact lz (bJ R.d) l
 have d1:=ak (bJ (g:=[⟨.lst,[]⟩]) R.f) rfl;have d2:=ak (bJ (g:=[⟨.lst,[]⟩]) i2) rfl;have RA:lH (h++[⟨.lst,[]⟩]) fi d j r H:=⟨bJ R.f,bJ R.d,λe he=>by
  obtain⟨t,a1,a2⟩:=R.p e he;exact⟨t,bJ a1,λx hx=>by obtain⟨m,hm⟩:=a2 x hx;exact⟨m,bJ hm⟩⟩,R.l⟩
 have e4:=Q9 (c+3) RA ft (k:=k);have hE:=fx h0;have oR:=fx (bJ (g:=[⟨.lst,[]⟩]) h0);have nr:∀i l,ao (.ref i::l)=false:=λi l=>ko i l
 have ce:=dy u3 rfl;rw[dG]at ce;have e5:run aM (c+5) "Boxes.touch_boxes" [.ref 0,.ref fi,cL k a,.int (-1)] h=some (.ok (cS (aF H a)),h2.set h.length oF):=by
  revert e3
  delta aK gy
  intro e3;rw[fz];simp only[↓bM,d1,d2,i1',e4,e3,ce,CM,oR,nr,aW,aU];rfl
 have mt:=λL=>iT (L:=L) (m:="touch_boxes") h0 (by kernel_rfl)
 have c4:Ch h (h2.set h.length oF) [1]:=by
  have a1:Ch h (h++[⟨.lst,[]⟩]) [1]:=Ch.app _ _ _;exact(a1.tr c3 (λn hn hl=>by simp at hn ⊢;lia)).tr (Ch.set _) (λn hn hl=>by simp at hn;lia)
 refine⟨_,?_,c4,w3.ch (Ch.set _) (by simp;have:=d8 h1;lia)⟩
 rw[jc];simp only[↓bM,e1,e5,mt,hE,nr,aW,aU]
end bI
set_option maxHeartbeats 2000000
namespace bI
open PySem L2 L2.U
structure Nm where
 a:Str
 b:Str
 c:Str
 d:Str
 e:Str
 f:Str
 z:Nat
 y:Nat
inductive N5 where
 | a | b | c | d | e
 deriving DecidableEq
noncomputable def Nm.n(N:Nm):N5->Str
 | .a=>N.a
 | .b=>N.b
 | .c=>N.c
 | .d=>N.d
 | .e=>N.e
structure bt (N:Nm):Prop where
 n:∀{x y:N5},N.n x=N.n y->x=y
 n0:∀x:N5,N.n x≠""
 z1:1<=N.z
 z8:N.z<=8
 y1:1<=N.y
 y8:N.y<=8
def yJ:PV:=.au [.str "num"]
def yK(z:Nat):PV:=.au [.str "strip",.int (z:Int)]
def LW(z:Nat):PV:=.au [.str "rec",.au [yJ,yK z]]
noncomputable def kC(N:Nm):N5->PV
 | .a=>yJ
 | .b=>yJ
 | .c=>yK N.z
 | .d=>.au [.str "own"]
 | .e=>LW N.y
inductive Ix where
 | at (i:Nat) | a | b
noncomputable def yL(N:Nm):Ix->PV
 | .at i=>.int (i:Int)
 | .a=>.str N.a
 | .b=>.str N.b
inductive Sp where
 | a | b | c | d | n | s | i (x:Ix) | j (x:Ix)
def gm(N:Nm):Sp->PV
 | .a=>.au [.str N.a,.bl false,.au [],.aL]
 | .b=>.au [.str N.b,.bl false,.au [],.aL]
 | .c=>.au [.str N.c,.bl false,.au [],.aL]
 | .d=>.au [.str N.d,.bl false,.au [],.aL]
 | .n=>.au [.str N.e,.bl false,.au [.int 0],.aL]
 | .s=>.au [.str N.e,.bl false,.au [.int 1],.aL]
 | .i x=>.au [.str N.c,.bl false,.au [],yL N x]
 | .j x=>.au [.str N.e,.bl false,.au [.int 1],yL N x]
def SK(N:Nm)(x:N5):PV:=.au [.str (N.n x),.bl false,.au [],.aL]
noncomputable def Sp.x:Sp->N5
 | .a=>.a
 | .b=>.b
 | .c=>.c
 | .i _=>.c
 | .d=>.d
 | _=>.e
noncomputable def Sp.f:Sp->Nat
 | .s=>1
 | .j _=>1
 | _=>0
inductive Op where
 | num (i:Int) | sp (s:Sp)
def gX(N:Nm):Op->PV
 | .num i=>.int i
 | .sp s=>gm N s
inductive Sg where
 | add | sub | mul
noncomputable def CP:Sg->Str
 | .add=>"+"
 | .sub=>"-"
 | .mul=>"*"
inductive Rw where
 | put (s:Sp) (o:Op)
 | fill (s:Sp) (o:Op)
 | set (s:Sp) (g:Sg) (o p:Op)
 | dR (s t:Sp)
 | fP (x:N5)
 | jV (o:Op)
 | ifs (o p:Op) (k:Nat)
 | go (k:Nat)
 | dr
def bK(N:Nm):Rw->PV
 | .put s o=>.au [.str "put",gm N s,gX N o]
 | .fill s o=>.au [.str "fill",gm N s,gX N o]
 | .set s g o p=>.au [.str "set",gm N s,.str (CP g),gX N o,gX N p]
 | .dR s t=>.au [.str "copy",gm N s,gm N t]
 | .fP x=>.au [.str "move",SK N x,SK N x]
 | .jV o=>.au [.str "say",gX N o]
 | .ifs o p k=>.au [.str "if",gX N o,gX N p,.int (k:Int)]
 | .go k=>.au [.str "go",.int (k:Int)]
 | .dr=>.au [.str "give",.str ""]
def sS(N:Nm)(x:N5):PV:=.au [.str (N.n x),kC N x]
def fdP(N:Nm)(R:List Rw):PV:=.au [.str N.f,.au [sS N .a],.aL,.au ([N5.b,.c,.d,.e].map (sS N)),.au (R.map (bK N))]
theorem Iq(N:Nm)(s:Sp):noRef (gm N s)=true:=by
 cases s
 case i x=>cases x<;>rfl
 case j x=>cases x<;>rfl
 all_goals rfl
theorem Wm(N:Nm)(o:Op):noRef (gX N o)=true:=by
 cases o
 ·rfl
 ·exact Iq N _
theorem gq{α:Type}{f:α->PV}(h:∀x,noRef (f x)=true):∀l:List α,ao (l.map f)=true
 | []=>rfl
 | x::l=>by rw[aP,ao,h x,gq h l];rfl
theorem rD{l:List PV}(h:ao l=true):noRef (.lst l)=true:=by rw[noRef];exact h
theorem Rf{l:List PV}(h:ao l=true):noRef (.au l)=true:=by rw[noRef];exact h
theorem yM(N:Nm)(x:N5):noRef (kC N x)=true:=by cases x<;>rfl
theorem uq(N:Nm)(r:Rw):noRef (bK N r)=true:=by
 cases r
 all_goals simp[bK,SK,noRef,ao,Iq,Wm,gq]
theorem rE(N:Nm)(F:List Rw):noRef (fdP N F)=true:=by
 simp[fdP,sS,noRef,ao,gq,yM,uq]
theorem bt.b{N:Nm}(K:bt N){x y:N5}(h:x≠y):(N.n x==N.n y)=false:=fE.mpr λe=>h (K.n e)
theorem ph{h:List aj}{x y:Str}:mQ h (.str x) (.str y)=some (.bl (x==y)):=rfl
theorem wJ(c:Nat){N:Nm}(K:bt N)(F:List Rw)(x:N5):run aM (c+1) "kind_of" [fdP N F,.str (N.n x)] []=some (.ok (kC N x),[]):=by
 rw[yy];have h1:∀(h:List aj) (y z:N5),y≠z->mQ h (.str (N.n y)) (.str (N.n z))=some (.bl false):=λh y z e=>by rw[ph,K.b e]
 have h2:∀(h:List aj) (y:N5),mQ h (.str (N.n y)) (.str (N.n y))=some (.bl true):=λh y=>by rw[ph,eU]
 cases x<;>simp only[↓bM,h1,h2,fdP,sS,aP,dZ,ne_eq,reduceCtorEq,not_false_eq_true]<;>rfl
end bI
set_option maxHeartbeats 2000000
namespace bI
open PySem L2 L2.U
noncomputable def rF:N5->Nat
 | .e=>2
 | _=>1
def uu(N:Nm)(w:Str)(s:Sp):Ac:=⟨w,N.n s.x,false,s.f,1,""⟩
def Bi(N:Nm)(w:Str)(x:N5):Ac:=⟨w,N.n x,false,0,rF x,""⟩
theorem g9(c:Nat)(N:Nm)(x:N5):run aM (c+1) "is_holder" [kC N x] []=some (.ok (.bl false),[]):=by
 cases x<;>kernel_rfl
theorem wK(c:Nat)(N:Nm)(x:N5):run aM (c+2) "shape_of" [kC N x] []=some (.ok (kC N x),[]):=by
 cases x<;>kernel_rfl
theorem touch_s(c:Nat){N:Nm}(K:bt N)(F:List Rw)(w t:Str)(s:Sp):run aM (c+8) "touch" [fdP N F,.str w,gm N s,.str t] []=some (.ok (jU ⟨w,N.n s.x,false,s.f,1,t⟩),[]):=by
 rw[uk];have e1:∀h,bu h (gm N s) (.int 0)=some (.str (N.n s.x)):=λh=>by cases s<;>rfl
 have e2:∀h,bu h (gm N s) (.int 1)=some (.bl false):=λh=>by cases s<;>rfl
 have e3:=λx=>wJ (c+6) K F x
 have e4:=λx=>wK (c+5) N x
 cases s<;>simp only[↓bM,e1,e2,e3,e4]<;>rfl
theorem touch_w(c:Nat){N:Nm}(K:bt N)(F:List Rw)(w t:Str)(x:N5):run aM (c+8) "touch" [fdP N F,.str w,SK N x,.str t] []=some (.ok (jU ⟨w,N.n x,false,0,rF x,t⟩),[]):=by
 rw[uk];have e3:=λx=>wJ (c+6) K F x
 have e4:=λx=>wK (c+5) N x
 cases x<;>simp only[↓bM,e3,e4,SK]<;>rfl
theorem CQ(c:Nat){N:Nm}(K:bt N)(F:List Rw)(w t:Str)(x:N5):run aM (c+9) "touch_whole" [fdP N F,.str w,.str (N.n x),.str t] []=some (.ok (jU ⟨w,N.n x,false,0,rF x,t⟩),[]):=by
 rw[oK];have e3:=λx=>wJ (c+7) K F x
 have e4:=λx=>g9 (c+7) N x
 have e5:run aM (c+8) "touch" [fdP N F,.str w,.au [.str (N.n x),.bl false,.au [],.aL],.str t] []=_:=touch_w c K F w t x;simp only[↓bM,e3,e4,e5]
def NC(N:Nm)(x:N5):Ac:=Bi N "read" x
def NF(N:Nm):Ix->List Ac
 | .a=>[NC N .a]
 | .b=>[NC N .b]
 | _=>[]
def sv(N:Nm):Sp->List Ac
 | .i x=>NF N x
 | .j x=>NF N x
 | _=>[]
def oS(N:Nm):Op->List Ac
 | .num _=>[]
 | .sp s=>sv N s++[uu N "read" s]
def EE(N:Nm):Sp->List Ac
 | .i x=>sv N (.i x)++[uu N "turn" (.i x)]
 | .j x=>sv N (.j x)++[uu N "turn" (.j x)]
 | s=>[uu N "fill" s]
def b7(N:Nm):Rw->List Ac
 | .put s o=>oS N o++EE N s
 | .fill s o=>oS N o++EE N s
 | .set s _ o p=>oS N o++oS N p++EE N s
 | .dR s t=>[uu N "read" t,uu N "fill" s]
 | .fP x=>[Bi N "empty" x,Bi N "fill" x]
 | .jV o=>oS N o
 | .ifs o p _=>oS N o++oS N p
 | .go _=>[]
 | .dr=>[]
noncomputable def LX:Rw->Str
 | .put _ _=>"put_acts"
 | .fill _ _=>"put_acts"
 | .set _ _ _ _=>"set_acts"
 | .dR _ _=>"copy_acts"
 | .fP _=>"move_acts"
 | .jV _=>"say_acts"
 | .ifs _ _ _=>"if_acts"
 | .go _=>"go_acts"
 | .dr=>"give_acts"
theorem Rh(c:Nat){N:Nm}(K:bt N)(F:List Rw)(s:Sp):run aM (c+10) "at_acts" [fdP N F,gm N s] []=some (.ok (.lst ((sv N s).map jU)),[]):=by
 rw[yz];have e1:run aM (c+9) "touch_whole" [fdP N F,.str "read",.str N.a,.str ""] []=some (.ok (jU (NC N .a)),[]):=CQ c K F "read" "" .a;have e2:run aM (c+9) "touch_whole" [fdP N F,.str "read",.str N.b,.str ""] []=some (.ok (jU (NC N .b)),[]):=CQ c K F "read" "" .b;cases s
 case i x=>cases x<;>simp only[↓bM,gm,yL,e1,e2]<;>rfl
 case j x=>cases x<;>simp only[↓bM,gm,yL,e1,e2]<;>rfl
 all_goals (simp only[↓bM,gm,yL]<;>rfl)
theorem rG(c:Nat){N:Nm}(K:bt N)(F:List Rw)(o:Op):run aM (c+11) "operand_acts" [fdP N F,gX N o] []=some (.ok (.lst ((oS N o).map jU)),[]):=by
 rw[nO];cases o with
 | num i=>simp only[↓bM,gX]<;>rfl
 | sp s =>
  have e1:=Rh c K F s;have e2:=touch_s (c+2) K F "read" "" s;have e4:∀st,Xs Ty.tuple (rd 1) ⟨[some (fdP N F),some (gm N s)],st⟩=some (.ok (.bl true),⟨[some (fdP N F),some (gm N s)],st⟩):=λst=>by cases s<;>rfl
  cases s
  case i x=>cases x<;>simp only[↓bM,gX,e1,e2,e4]<;>rfl
  case j x=>cases x<;>simp only[↓bM,gX,e1,e2,e4]<;>rfl
  all_goals (simp only[↓bM,gX,e1,e2,e4]<;>rfl)
end bI
set_option maxHeartbeats 2000000
namespace bI
open PySem L2 L2.U
theorem add_l{h:List aj}(A B:List Ac)(hl:A.length+B.length<=1000):gK h (.lst (A.map jU)) (.lst (B.map jU))=some (.lst ((A++B).map jU)):=by
 show L2.U.sizeOk ((A.map jU).length+(B.map jU).length) (.lst (A.map jU++B.map jU))=_;rw[aT,aT,eV];unfold L2.U.sizeOk;exact if_pos (aR hl (by decide))
theorem CS(N:Nm)(x:Ix):(NF N x).length<=1:=by cases x<;>simp[NF]
theorem j9(N:Nm)(s:Sp):(sv N s).length<=1:=by
 cases s
 case i x=>exact CS N x
 case j x=>exact CS N x
 all_goals simp[sv]
theorem dz(N:Nm)(o:Op):(oS N o).length<=2:=by
 cases o with
 | num i=>simp[oS]
 | sp s=>have:=j9 N s;simp[oS];lia
theorem kf(N:Nm)(s:Sp):(EE N s).length<=2:=by
 cases s
 case i x=>have:=j9 N (.i x);simp[EE];lia
 case j x=>have:=j9 N (.j x);simp[EE];lia
 all_goals simp[EE]
theorem Ir(c:Nat){N:Nm}(K:bt N)(F:List Rw)(s:Sp):run aM (c+11) "target_acts" [fdP N F,gm N s] []=some (.ok (.lst ((EE N s).map jU)),[]):=by
 rw[oM];have e0:=touch_s (c+2) K F "fill" "" s;cases s
 case i x =>
  have e1:=Rh c K F (.i x);have e2:=touch_s (c+2) K F "turn" "" (.i x);have e3:=λh=>add_l (h:=h) (sv N (.i x)) [uu N "turn" (.i x)] (by have:=j9 N (.i x);simp;lia)
  cases x<;>simp only[↓bM,e1,e2,e3]<;>rfl
 case j x =>
  have e1:=Rh c K F (.j x);have e2:=touch_s (c+2) K F "turn" "" (.j x);have e3:=λh=>add_l (h:=h) (sv N (.j x)) [uu N "turn" (.j x)] (by have:=j9 N (.j x);simp;lia)
  cases x<;>simp only[↓bM,e1,e2,e3]<;>rfl
 all_goals (simp only[↓bM,e0]<;>rfl)
theorem Wn(c:Nat){N:Nm}(K:bt N)(F:List Rw)(s:Sp)(o:Op):run aM (c+12) "put_acts" [fdP N F,bK N (.put s o)] []=some (.ok (.lst ((b7 N (.put s o)).map jU)),[]):=by
 rw[mE];have e1:=rG c K F o;have e2:=Ir c K F s;have e3:=λh=>add_l (h:=h) (oS N o) (EE N s) (by have:=dz N o;have:=kf N s;lia)
 simp only[↓bM,e1,e2,e3,bK];rfl
theorem Rj(c:Nat){N:Nm}(K:bt N)(F:List Rw)(s:Sp)(o:Op):run aM (c+12) "put_acts" [fdP N F,bK N (.fill s o)] []=some (.ok (.lst ((b7 N (.fill s o)).map jU)),[]):=by
 rw[mE];have e1:=rG c K F o;have e2:=Ir c K F s;have e3:=λh=>add_l (h:=h) (oS N o) (EE N s) (by have:=dz N o;have:=kf N s;lia)
 simp only[↓bM,e1,e2,e3,bK];rfl
theorem Wo(c:Nat){N:Nm}(K:bt N)(F:List Rw)(s:Sp)(g:Sg)(o p:Op):run aM (c+12) "set_acts" [fdP N F,bK N (.set s g o p)] []=some (.ok (.lst ((b7 N (.set s g o p)).map jU)),[]):=by
 rw[wx];have e1:=rG c K F o;have e4:=rG c K F p;have e2:=Ir c K F s;have l1:=dz N o;have l2:=dz N p;have l3:=kf N s;have e3:=λh=>add_l (h:=h) (oS N o) (oS N p) (by lia)
 have e5:=λh=>add_l (h:=h) (oS N o++oS N p) (EE N s) (by rw[bB];lia)
 simp only[↓bM,e1,e2,e3,e4,e5,bK];rfl
theorem Rk(c:Nat){N:Nm}(K:bt N)(F:List Rw)(s t:Sp):run aM (c+12) "copy_acts" [fdP N F,bK N (.dR s t)] []=some (.ok (.lst ((b7 N (.dR s t)).map jU)),[]):=by
 rw[sP];have e1:=touch_s (c+3) K F "read" "" t;have e2:=touch_s (c+3) K F "fill" "" s;simp only[↓bM,e1,e2,bK];rfl
theorem Rl(c:Nat){N:Nm}(K:bt N)(F:List Rw)(x:N5):run aM (c+12) "move_acts" [fdP N F,bK N (.fP x)] []=some (.ok (.lst ((b7 N (.fP x)).map jU)),[]):=by
 rw[sQ];have e1:=touch_w (c+3) K F "empty" "" x;have e2:=touch_w (c+3) K F "fill" "" x;simp only[↓bM,e1,e2,bK];rfl
theorem Wq(c:Nat){N:Nm}(K:bt N)(F:List Rw)(o:Op):run aM (c+12) "say_acts" [fdP N F,bK N (.jV o)] []=some (.ok (.lst ((b7 N (.jV o)).map jU)),[]):=by
 rw[wz];have e1:=rG c K F o;simp only[↓bM,e1,bK];rfl
theorem Wr(c:Nat){N:Nm}(K:bt N)(F:List Rw)(o p:Op)(k:Nat):run aM (c+12) "if_acts" [fdP N F,bK N (.ifs o p k)] []=some (.ok (.lst ((b7 N (.ifs o p k)).map jU)),[]):=by
 rw[yA];have e1:=rG c K F o;have e4:=rG c K F p;have l1:=dz N o;have l2:=dz N p;have e3:=λh=>add_l (h:=h) (oS N o) (oS N p) (by lia)
 simp only[↓bM,e1,e3,e4,bK];rfl
theorem aat(c:Nat){N:Nm}(F:List Rw)(k:Nat):run aM (c+12) "go_acts" [fdP N F,bK N (.go k)] []=some (.ok (.lst ((b7 N (.go k)).map jU)),[]):=by
 rw[yB];simp only[↓bM];rfl
theorem Rm(c:Nat){N:Nm}(F:List Rw):run aM (c+12) "give_acts" [fdP N F,bK N .dr] []=some (.ok (.lst ((b7 N .dr).map jU)),[]):=by
 rw[sR];simp only[↓bM,bK];rfl
end bI
set_option maxHeartbeats 4000000
namespace bI
open PySem L2 L2.U
def mkc(p:PV):Gx PV:=λst=>match p with
 | .nd .lst qs=>jH ⟨.lst,qs⟩ st
 | _=>none
theorem Iu(link:List (Option Nat))(fi:Gx Cg)(bd:Bd):jL true link fi bd=bnd (jL false link fi bd) mkc:=by
 funext st
 unfold jL bnd;cases fi st with
 | none=>rfl
 | some r =>
  obtain⟨r,st1⟩:=r;cases r with
  | ok s =>
   show(Cj (bd (dq link st1.ρ)) st1.h s).bind (Ck true st1.ρ)=((Cj (bd (dq link st1.ρ)) st1.h s).bind (Ck false st1.ρ)).bind (O8 mkc);cases Cj (bd (dq link st1.ρ)) st1.h s<;>rfl
  | ex m C=>rfl
theorem pj{h:List aj}{n:Nat}:∀{l:List PV},ao l=true->dD (nK h n) l=some l
 | [],_=>rfl
 | p::l,hn=>by
  simp only[ao,aH]at hn;show(nK h n p).bind (λy=>(dD (nK h n) l).map λys=>y::ys)=_
  rw[pj hn.2,show nK h n p=some p by cases n<;>(unfold nK;rw[if_pos hn.1])]
  rfl
theorem rH{ps:List PV}(h:ao ps=true):iu [⟨.lst,ps⟩] (.ref 0)=some (.lst ps):=by
 show(dD (nK _ 3) ps).map _=_;rw[pj h];rfl
theorem Ws(a:Ac):noRef (jU a)=true:=by simp[jU,noRef,ao]
theorem Rq(A:List Ac):ao (A.map jU)=true:=gq Ws A
theorem Wt(c:Nat){N:Nm}(K:bt N)(F:List Rw)(r:Rw):run aM (c+12) (LX r) [fdP N F,bK N r] []=some (.ok (.lst ((b7 N r).map jU)),[]):=by
 cases r with
 | put s o=>exact Wn c K F s o
 | fill s o=>exact Rj c K F s o
 | set s g o p=>exact Wo c K F s g o p
 | dR s t=>exact Rk c K F s t
 | fP x=>exact Rl c K F x
 | jV o=>exact Wq c K F o
 | ifs o p k=>exact Wr c K F o p k
 | go k=>exact aat c F k
 | dr=>exact Rm c F
theorem yN(N:Nm)(r:Rw):(b7 N r).length<=6:=by
 cases r with
 | put s o=>have:=dz N o;have:=kf N s;simp only[b7,bB];lia
 | fill s o=>have:=dz N o;have:=kf N s;simp only[b7,bB];lia
 | set s g o p=>have:=dz N o;have:=dz N p;have:=kf N s;simp only[b7,bB];lia
 | dR s t=>simp[b7]
 | fP x=>simp[b7]
 | jV o=>have:=dz N o;simp only[b7];lia
 | ifs o p k=>have:=dz N o;have:=dz N p;simp only[b7,bB];lia
 | go k=>simp[b7]
 | dr=>simp[b7]
noncomputable def Jw:Rw->Str
 | .put _ _=>"put"
 | .fill _ _=>"fill"
 | .set _ _ _ _=>"set"
 | .dR _ _=>"copy"
 | .fP _=>"move"
 | .jV _=>"say"
 | .ifs _ _ _=>"if"
 | .go _=>"go"
 | .dr=>"give"
theorem CU{h:List aj}(N:Nm)(r:Rw):bu h (bK N r) (.int 0)=some (.str (Jw r)):=by cases r<;>rfl
noncomputable abbrev rsA:Ac:=⟨"rest","",false,0,0,""⟩
def Iv(A:List Ac):List Ac:=if A.isEmpty then [rsA]else A
noncomputable def kq:Nat->List (List Ac)->List (Nat×Ac)
 | _,[]=>[]
 | j,A::T=>A.map (λa=>(j,a))++kq (j+1) T
def rJ(z:Nat×Ac):PV:=cL z.1 z.2
theorem Wu(r:Rw):(List.lookup (Jw r) gJ)=some (LX r):=by
 cases r<;>kernel_rfl
theorem Rt(r:Rw):LO.lookup (LX r)=some 2:=by cases r<;>kernel_rfl
theorem Ww{ρ:List (Option PV)}{L R:List PV}(h:L.length+R.length<=1000000):oB (.ref 0) [.lst R] ⟨ρ,[⟨.lst,L⟩]⟩=some (.ok .aL,⟨ρ,[⟨.lst,L++R⟩]⟩):=by
 show(fu (dN λps _=>if ps.length+R.length<=ic then some (ps++R)else none) (.ref 0) [] ⟨ρ,[⟨.lst,L⟩]⟩)=_
 have e:(if L.length+R.length<=ic then some (L++R)else none)=some (L++R):=if_pos (aR h (by decide))
 show(((if L.length+R.length<=ic then some (L++R)else none).map λqs=>((⟨.lst,qs⟩:aj),PV.aL)).map λr=>_)=_
 rw[e];rfl
theorem EF(c:CT){N:Nm}{x0 x1:Option PV}{F:List Rw}{r:Rw}{A:List Ac}{p:PV}{h':List aj}(hA:A.length<=200)(hf:iu h' p=some (.lst (A.map jU)))(hc:c (LX r) [fdP N F,bK N r] []=some (.ok p,h'))(k:Nat)(L:List PV)(hL:L.length<=9000)(x6:Option PV):jS c ⟨[x0,x1,some (fdP N F),some (.ref 0),some (.int (k:Int)),some (bK N r),x6],[⟨.lst,L⟩]⟩=some (.ok .nx,⟨[x0,x1,some (fdP N F),some (.ref 0),some (.int (k:Int)),some (bK N r),some (.lst (A.map jU))],[⟨.lst,L++(Iv A).map (cL k)⟩]⟩):=by
 have e1:∀h,bu h (bK N r) (.int 0)=some (.str (Jw r)):=λh=>CU N r
 have e3:(Qe (.str (Jw r))).bind (λk=>Option.map PV.fn (List.lookup k gJ))=some (.fn (LX r)):=by
  show Option.map PV.fn (List.lookup (Jw r) gJ)=_;rw[Wu];rfl
 have e4:(XB (.fn (LX r))).bind (λx=>Option.map (λn=>(x,n)) (List.lookup x LO))=some (LX r,2):=by
  show Option.map (λn=>(LX r,n)) (List.lookup (LX r) LO)=_
  rw[Rt];rfl
 have ll:(A.map jU).length<=4000000:=by rw[aT];lia
 cases hE:A.isEmpty with
 | true =>
  cases A with
  | cons a A=>cases hE
  | nil =>
   have e2:∀ρ,oB (.ref 0) [.lst ((some (PV.au [.int (k:Int),.str "rest",.str "",.bl false,.int 0,.int 0,.str ""])).toList++[])] ⟨ρ,[⟨.lst,L⟩]⟩=some (.ok .aL,⟨ρ,[⟨.lst,L++[.au [.int (k:Int),.str "rest",.str "",.bl false,.int 0,.int 0,.str ""]]⟩]⟩):=λρ=>Ww (R:=[.au [.int (k:Int),.str "rest",.str "",.bl false,.int 0,.int 0,.str ""]]) (by simp;lia)
   have l1:[PV.au [.str "rest",.str "",.bl false,.int 0,.int 0,.str ""]].length<=4000000:=by simp
   refine aY ?_;unfold jS;simp only[↓fA,e1,e2,e3,e4,l1,hc,hf,ao,noRef,rE,uq];rfl
 | false =>
  have ho:Iv A=A:=by unfold Iv;rw[hE];rfl
  rw[ho];have e2:∀ρ,oB (.ref 0) [.lst (A.map λa=>.au [.int (k:Int),.str a.w,.str a.x,.bl a.t,.int (a.f:Int),.int (a.m:Int),.str a.k])] ⟨ρ,[⟨.lst,L⟩]⟩=some (.ok .aL,⟨ρ,[⟨.lst,L++A.map (cL k)⟩]⟩):=λρ=>Ww (by rw[aT];lia)
  have e5:∀h a,gK h (.au [.int (k:Int)]) (jU a)=some (.au [.int (k:Int),.str a.w,.str a.x,.bl a.t,.int (a.f:Int),.int (a.m:Int),.str a.k]):=λh a=>rfl
  refine aY ?_;unfold jS;simp only[↓fA,e1,e2,e3,e4,e5,hc,hf,ll,ao,noRef,rE,uq,List.isEmpty_map,hE,u9]
def lB(N:Nm)(rs:List Rw):List (List Ac):=rs.map λr=>Iv (b7 N r)
theorem CV{A:List Ac}(h:A.length<=6):(Iv A).length<=6:=by
 unfold Iv;split
 ·simp
 ·exact h
theorem uv(c:Nat){N:Nm}(K:bt N){x0 x1:Option PV}{F:List Rw}:∀(rs:List Rw) (k:Nat) (L:List PV) (x4 x5 x6:Option PV),L.length+6*rs.length<=9000->∃(x4' x5' x6':Option PV),gj Q0 (jS (run aM (c+12))) (kB k (rs.map (bK N))) ⟨[x0,x1,some (fdP N F),some (.ref 0),x4,x5,x6],[⟨.lst,L⟩]⟩=some (.ok .nx,⟨[x0,x1,some (fdP N F),some (.ref 0),x4',x5',x6'],[⟨.lst,L++(kq k (lB N rs)).map rJ⟩]⟩)
 | [],k,L,x4,x5,x6,_=>⟨x4,x5,x6,by simp[kq,lB];rfl⟩
 | r::rs,k,L,x4,x5,x6,hl=>by
  simp only[cq]at hl;have a4:=Wt c K F r;have a3:iu [] (.lst ((b7 N r).map jU))=some (.lst ((b7 N r).map jU)):=Ie (rD (Rq _));have a2:=yN N r;have lo:=CV a2;have st:=EF (run aM (c+12)) (x0:=x0) (x1:=x1) (F:=F) (by lia) a3 a4 k L (by lia) x6
  obtain⟨z4,z5,z6,t3⟩:=uv c K (x0:=x0) (x1:=x1) (F:=F) rs (k+1) (L++(Iv (b7 N r)).map (cL k)) (some (.int (k:Int))) (some (bK N r)) (some (.lst ((b7 N r).map jU))) (by rw[bB,aT];lia)
  refine⟨z4,z5,z6,?_⟩;rw[show L++(kq k (lB N (r::rs))).map rJ=L++(Iv (b7 N r)).map (cL k)++(kq (k+1) (lB N rs)).map rJ by simp[lB,kq,rJ,pM]]
  exact fC (s1:=⟨[x0,x1,some (fdP N F),some (.ref 0),some (.int (k:Int)),some (bK N r),x6],[⟨.lst,L⟩]⟩) rfl st t3
theorem Ru(c:Nat){N:Nm}(K:bt N)(F:List Rw)(hl:F.length<=100):∃p h',iu h' p=some (.lst ((kq 0 (lB N F)).map rJ))/\run aM (c+13) "acts" [.au [fdP N F],.int 0] []=some (.ok p,h'):=by
 refine⟨.ref 0,[⟨.lst,(kq 0 (lB N F)).map rJ⟩],rH (gq (λz=>by simp[rJ,cL,noRef,ao]) _),?_⟩
 have e1:bu [] (.au [fdP N F]) (.int 0)=some (fdP N F):=rfl;obtain⟨z4,z5,z6,t3⟩:=uv c K (x0:=some (.au [fdP N F])) (x1:=some (.int 0)) (F:=F) F 0 [] none none none (by simp;lia)
 rw[Ij];unfold Ih;simp only[↓bM,e1,t3,dG]
end bI
set_option maxHeartbeats 2000000
namespace bI
open PySem L2 L2.U
noncomputable def bD(T:List (List PV)):List aj:=T.map λl=>⟨.lst,l⟩
noncomputable def dA:Nat->Nat->List PV
 | _,0=>[]
 | b,n+1=>.ref b::dA (b+1) n
theorem yO:∀(n b i:Nat),i<n->(dA b n)[i]?=some (.ref (b+i))
 | n+1,b,0,_=>rfl
 | n+1,b,i+1,h=>by
  show(dA (b+1) n)[i]?=_;rw[yO n (b+1) i (by lia)]
  congr 2
  lia
theorem CW{L:List PV}{ρ:List (Option PV)}:∀(ps:List PV) (h:List aj),fy Q3 ps h=some (dA h.length ps.length,h++List.replicate ps.length ⟨.lst,[]⟩)
 | [],h=>by simp[fy,dA]
 | p::ps,h=>by
  have e:oC (dh 1) (DO (cD [])) [none,none] p h=some (some (.ref h.length),h++[⟨.lst,[]⟩]):=rfl;rw[rp e (CW (L:=L) (ρ:=ρ) ps _)];simp[dA,gC]
def wL(T:List (List PV))(z:Nat×Ac):List (List PV):=if z.2.w="rest" then T else T.set z.1 (T.getD z.1 []++[rJ z])
theorem wM{h:List aj}{n:Nat}{L:List PV}{v:PV}{ρ:List (Option PV)}(e:h[n]?=some ⟨.lst,L⟩)(hl:L.length<=4000):fu (dN fw) (.ref n) [v] ⟨ρ,h⟩=some (.ok .aL,⟨ρ,h.set n ⟨.lst,L++[v]⟩⟩):=by
 have:fw L [v]=some (L++[v]):=if_pos (show L.length<ic from pG hl (by decide))
 show((jf h (.ref n)).bind λc=>(dN fw c.2 [v]).map λr=>_)=_
 rw[dy e rfl];show(((fw L [v]).map λqs=>((⟨.lst,qs⟩:aj),PV.aL)).map λr=>_)=_
 rw[this];rfl
theorem rK(c:CT){x0 x1:Option PV}:∀(Z:List (Nat×Ac)) (T:List (List PV)) (g:List aj) (x3:Option PV) (m:Nat),T.length=m->(∀z∈Z,z.1<m)->(∀l∈T,l.length+Z.length<=4000) ->
  ∃y3,gj (dh 3) (eE c) (Z.map rJ) ⟨[x0,x1,some (.ref m),x3],bD T++⟨.lst,dA 0 m⟩::g⟩=some (.ok .nx,⟨[x0,x1,some (.ref m),y3],bD (Z.foldl wL T)++⟨.lst,dA 0 m⟩::g⟩)
 | [],T,g,x3,m,_,_,_=>⟨x3,rfl⟩
 | z::Z,T,g,x3,m,hT,hz,hl=>by
  have hm:=hz z du;have h1:(bD T++⟨.lst,dA 0 m⟩::g)[m]?=some ⟨.lst,dA 0 m⟩:=by
   rw[jl (by simp[bD,hT])]
   simp[bD,hT]
  have h2:(bD T++⟨.lst,dA 0 m⟩::g)[z.1]?=some ⟨.lst,T.getD z.1 []⟩:=by
   rw[fB (by simp[bD,hT];exact hm)]
   simp only[bD,cY,jm];rw[dU (by rw[hT];exact hm)]
   rfl
  have hlz:(T.getD z.1 []).length+Z.length+1<=4000:=by
   have:=hl (T.getD z.1 []) (by rw[jm,dU (by rw[hT];exact hm)];exact zP _)
   rw[cq]at this;lia
  have e1:bu (bD T++⟨.lst,dA 0 m⟩::g) (.ref m) (.int (z.1:Int))=some (.ref z.1):=by
   have d:=ak h1 rfl;simp only[bu,d];exact atI_nat (by rw[yO m 0 z.1 hm,ny])
  have d2:=ak h2 rfl;have e0:∀h,bu h (rJ z) (.int 0)=some (.int (z.1:Int)):=λh=>rfl
  have e2:=λρ=>wM (ρ:=ρ) (v:=rJ z) h2 (by lia)
  have e3:∀h,bu h (rJ z) (.int 1)=some (.str z.2.w):=λh=>rfl
  have e4:∀h,E2 h (.str z.2.w) (.str "rest")=some (.bl (!(z.2.w=="rest"))):=λh=>rfl
  have hs:(bD T++⟨.lst,dA 0 m⟩::g).set z.1 ⟨.lst,T.getD z.1 []++[rJ z]⟩=bD (T.set z.1 (T.getD z.1 []++[rJ z]))++⟨.lst,dA 0 m⟩::g:=by
   rw[List.set_append_left _ _ (by simp[bD,hT];exact hm)]
   simp[bD,List.map_set]
  by_cases hw:z.2.w="rest"
  ·obtain⟨y3,ih⟩:=rK c (x0:=x0) (x1:=x1) Z T g (some (rJ z)) m hT (λy hy=>hz y (cG _ hy)) (λl h=>by have:=hl l h;simp at this;lia)
   refine⟨y3,?_⟩;have hp:wL T z=T:=if_pos hw;rw[kQ,hp,aP];have hq:(z.2.w=="rest")=true:=by rw[hw];rfl
   refine fC (s1:=⟨[x0,x1,some (.ref m),some (rJ z)],_⟩) rfl ?_ ih;refine aY ?_
   delta eE gy
   simp only[↓fA,e3,e4,hq,iB]
  ·have hp:wL T z=T.set z.1 (T.getD z.1 []++[rJ z]):=if_neg hw;obtain⟨y3,ih⟩:=rK c (x0:=x0) (x1:=x1) Z (T.set z.1 (T.getD z.1 []++[rJ z])) g (some (rJ z)) m (by simp[hT]) (λy hy=>hz y (cG _ hy)) (λl h=>by
    rcases List.mem_or_eq_of_mem_set h with h | rfl
    ·have:=hl l h;simp at this;lia
    ·rw[bB];simp only[cq,m9];lia)
   refine⟨y3,?_⟩;rw[kQ,hp,aP];have hq:(z.2.w=="rest")=false:=fE.mpr hw;refine fC (s1:=⟨[x0,x1,some (.ref m),some (rJ z)],_⟩) rfl ?_ ih;refine aY ?_
   delta eE gy
   rw[<-hs];simp only[↓fA,d2,e0,e1,e2,e3,e4,hq,u9]
end bI
set_option maxHeartbeats 2000000
namespace bI
open PySem L2 L2.U
def zh(N:Nm):Nat->List Rw->List (List PV)
 | _,[]=>[]
 | k,r::rs=>(b7 N r).map (cL k)::zh N (k+1) rs
theorem CY(N:Nm):∀(rs:List Rw) (k:Nat),(zh N k rs).length=rs.length
 | [],_=>rfl
 | r::rs,k=>by show(zh N (k+1) rs).length+1=_;rw[CY];rfl
theorem Iw(N:Nm):∀(rs:List Rw) (k i:Nat) (r:Rw),rs[i]?=some r->(zh N k rs)[i]?=some ((b7 N r).map (cL (k+i)))
 | r::rs,k,0,q,e=>by cases e;rfl
 | r::rs,k,i+1,q,e=>by
  show(zh N (k+1) rs)[i]?=_;rw[Iw N rs (k+1) i q (by simpa using e)]
  congr 3
  lia
 | [],_,_,_,e=>by simp at e
theorem yP(k:Nat):∀(A:List Ac) (pre:List (List PV)) (l:List PV) (rest:List (List PV)),pre.length=k->(∀a∈A,a.w≠"rest")->(A.map (λa=>(k,a))).foldl wL (pre++l::rest)=pre++(l++A.map (cL k))::rest
 | [],pre,l,rest,_,_=>by simp
 | a::A,pre,l,rest,hk,ha=>by
  have e:wL (pre++l::rest) (k,a)=pre++(l++[cL k a])::rest:=by
   unfold wL;rw[if_neg (ha a du)];simp only[jm];rw[jl (by lia),List.set_append_right _ _ (by lia),hk]
   simp[rJ]
  rw[aP,kQ,e,yP k A pre _ rest hk λb hb=>ha b (cG _ hb)]
  simp
theorem EG(N:Nm)(r:Rw):∀a∈b7 N r,a.w≠"rest":=by
 have hat:∀s,∀a∈sv N s,a.w="read":=λs a h=>by
  cases s
  case i x=>cases x<;>simp[sv,NF]at h<;>(subst h;rfl)
  case j x=>cases x<;>simp[sv,NF]at h<;>(subst h;rfl)
  all_goals cases h
 have hop:∀o,∀a∈oS N o,a.w="read":=λo a h=>by
  cases o with
  | num i=>cases h
  | sp s =>
   rcases cH.mp h with h | h
   ·exact hat s a h
   ·rw[bh.mp h];rfl
 have htg:∀s,∀a∈EE N s,a.w≠"rest":=λs a h=>by
  cases s
  case i x =>
   rcases cH.mp h with h | h
   ·rw[hat _ a h];decide
   ·rw[bh.mp h];show("turn":Str)≠"rest";decide
  case j x =>
   rcases cH.mp h with h | h
   ·rw[hat _ a h];decide
   ·rw[bh.mp h];show("turn":Str)≠"rest";decide
  all_goals (rw[bh.mp h];show("fill":Str)≠"rest";decide)
 have EY:∀o,∀a∈oS N o,a.w≠"rest":=λo a h=>by rw[hop o a h];decide
 intro a h;cases r with
 | put s o =>
  rcases cH.mp h with h | h
  ·exact EY o a h
  ·exact htg s a h
 | fill s o =>
  rcases cH.mp h with h | h
  ·exact EY o a h
  ·exact htg s a h
 | set s g o p =>
  rcases cH.mp h with h | h
  ·rcases cH.mp h with h | h
   ·exact EY o a h
   ·exact EY p a h
  ·exact htg s a h
 | dR s t =>
  rcases aG.mp h with rfl | h
  ·show("read":Str)≠"rest";decide
  ·rw[bh.mp h];show("fill":Str)≠"rest";decide
 | fP x =>
  rcases aG.mp h with rfl | h
  ·show("empty":Str)≠"rest";decide
  ·rw[bh.mp h];show("fill":Str)≠"rest";decide
 | jV o=>exact EY o a h
 | ifs o p k =>
  rcases cH.mp h with h | h
  ·exact EY o a h
  ·exact EY p a h
 | go k=>cases h
 | dr=>cases h
theorem uw(N:Nm):∀(rs:List Rw) (k:Nat) (pre:List (List PV)),pre.length=k->(kq k (lB N rs)).foldl wL (pre++List.replicate rs.length [])=pre++zh N k rs
 | [],k,pre,_=>by simp[lB,kq,zh]
 | r::rs,k,pre,hk=>by
  show((Iv (b7 N r)).map (λa=>(k,a))++kq (k+1) (lB N rs)).foldl wL (pre++List.replicate (rs.length+1) [])=pre++(b7 N r).map (cL k)::zh N (k+1) rs
  rw[List.foldl_append,gC];have e:((Iv (b7 N r)).map (λa=>(k,a))).foldl wL (pre++[]::List.replicate rs.length [])=pre++(b7 N r).map (cL k)::List.replicate rs.length []:=by
   unfold Iv;cases h:(b7 N r).isEmpty with
   | true =>
    rw[zQ.mp h];rfl
   | false =>
    have:=yP k (b7 N r) pre [] (List.replicate rs.length []) hk (EG N r);simpa using this
  rw[e];have:=uw N rs (k+1) (pre++[(b7 N r).map (cL k)]) (by simp[hk])
  simpa using this
noncomputable def D9(N:Nm)(rs:List Rw):PV:=.lst ((zh N 0 rs).map .lst)
theorem Iy:∀(T:List (List Ac)) (k:Nat),∀z∈kq k T,z.1<k+T.length
 | [],_,z,h=>by cases h
 | A::T,k,z,h=>by
  rcases cH.mp h with h | h
  ·obtain⟨a,_,rfl⟩:=bZ.mp h;show k<_;simp
  ·have:=Iy T (k+1) z h;simp only[cq];lia
theorem CZ:∀(T:List (List Ac)) (k:Nat),(∀A∈T,A.length<=6)->(kq k T).length<=6*T.length
 | [],_,_=>by simp[kq]
 | A::T,k,h=>by
  have h1:=h A du;have h2:=CZ T (k+1) λB hB=>h B (cG _ hB)
  simp only[kq,bB,aT,cq]
  lia
theorem yQ(T:List (List PV))(g:List aj)(hT:∀l∈T,ao l=true):∀(n b:Nat),b+n=T.length->dD (nK (bD T++g) 3) (dA b n)=some ((T.drop b).map .lst)
 | 0,b,hb=>by rw[show T.drop b=[]from List.drop_eq_nil_of_le (by lia)];rfl
 | n+1,b,hb=>by
  have qH:b<T.length:=by lia
  have h1:(bD T++g)[b]?=some ⟨.lst,T[b]⟩:=by
   rw[fB (by simp[bD];exact qH)]
   simp[bD,qH]
  have e1:nK (bD T++g) 3 (.ref b)=some (.lst T[b]):=by
   show(((bD T++g)[b]?).bind λc=>if live c=true then(dD (nK (bD T++g) 2) c.ps).map (PV.nd c.k)else none)=_
   rw[h1];show(dD (nK (bD T++g) 2) T[b]).map (PV.nd Kd.lst)=_;rw[pj (hT _ (zP _))];rfl
  show(nK (bD T++g) 3 (.ref b)).bind (λy=>(dD (nK (bD T++g) 3) (dA (b+1) n)).map λys=>y::ys)=_
  rw[e1,yQ T g hT n (b+1) (by lia)]
  rw[zj qH];rfl
theorem Iz(c:Nat){N:Nm}(K:bt N)(F:List Rw)(hl:F.length<=100):∃p h',iu h' p=some (D9 N F)/\run aM (c+14) "acts_by_row" [.au [fdP N F],.int 0] []=some (.ok p,h'):=by
 have nk:∀z,noRef (rJ z)=true:=λz=>by simp[rJ,cL,noRef,ao]
 have nl:∀(rs:List Rw) (k:Nat),∀l∈zh N k rs,ao l=true:=λrs=>by
  induction rs with
  | nil=>intro k l h;cases h
  | cons r rs ih =>
   intro k l h;rcases aG.mp h with rfl | h
   ·exact gq (λa=>nk (k,a)) _
   ·exact ih (k+1) l h
 refine⟨.ref F.length,bD (zh N 0 F)++[⟨.lst,dA 0 F.length⟩],?_,?_⟩
 ·have hT:=CY N F 0;have h1:(bD (zh N 0 F)++[⟨.lst,dA 0 F.length⟩])[F.length]?=some ⟨.lst,dA 0 F.length⟩:=by
   rw[jl (by simp[bD,hT])]
   simp[bD,hT]
  unfold iu;rw[if_neg (by simp)]
  show(((bD (zh N 0 F)++[⟨.lst,dA 0 F.length⟩])[F.length]?).bind λc=>if live c=true then(dD (nK (bD (zh N 0 F)++[⟨.lst,dA 0 F.length⟩]) 3) c.ps).map (PV.nd c.k)else none)=_
  rw[h1];show(dD (nK (bD (zh N 0 F)++[⟨.lst,dA 0 F.length⟩]) 3) (dA 0 F.length)).map (PV.nd .lst)=_;rw[yQ (zh N 0 F) _ (nl F 0) F.length 0 (by lia)]
  rfl
 ·have e1:∀h,bu h (.au [fdP N F]) (.int 0)=some (fdP N F):=λh=>rfl
  have e2:∀h,bu h (fdP N F) (.int 4)=some (.au (F.map (bK N))):=λh=>rfl
  obtain⟨p,h',f1,f2⟩:=Ru c K F hl;have e3:(F.map (bK N)).length<=4000000:=by rw[aT];lia
  have e4:fy Q3 (F.map (bK N)) []=some (dA 0 F.length,bD (List.replicate F.length [])):=by
   rw[CW (L:=[]) (ρ:=[])];simp[bD]
  have e5:(bD (List.replicate F.length [])).length=F.length:=by simp[bD]
  have e6:ao [PV.nd .au [fdP N F],PV.int 0]=true:=by simp[ao,noRef,gq,rE]
  obtain⟨y3,hL⟩:=rK (run aM (c+13)) (x0:=some (.au [fdP N F])) (x1:=some (.int 0)) (kq 0 (lB N F)) (List.replicate F.length []) [] none F.length (by simp) (λz hz=>by have:=Iy _ _ z hz;simpa[lB]using this) (λl h=>by
   rw[pC h];have:=CZ (lB N F) 0 λA hA=>by
    obtain⟨r,h1,rfl⟩:=bZ.mp hA;exact CV (yN N r)
   simp only[lB,aT]at this;simp only[m9,lB];lia)
  have hf:=uw N F 0 [] rfl;rw[dG,dG]at hf;rw[hf]at hL;rw[oO];rw[Iu]
  delta eE gy at hL
  simp only[↓bM,e1,e2,e3,e4,e5,e6,f1,f2,hL,bT,bQ]
end bI
set_option maxHeartbeats 4000000
namespace bI
open PySem L2 L2.U
theorem jW{h:List aj}{i:Nat}{C:Str}{ns:List Str}{ps:List PV}(e:h[i]?=some ⟨.ins C ns,ps⟩):qU h (.ref i) C=true:=by
 unfold qU;rw[dy e rfl];exact eU C
theorem Rv{h:List aj}{nb nt:Int}(e:h[0]?=some (jk nb nt)):wb "boxes_made" (.ref 0) h=some (("Boxes":Str),PV.int nb):=by
 unfold wb;rw[ak e rfl];rfl
theorem Rx{h:List aj}{nb nt:Int}(e:h[0]?=some (jk nb nt)):wb "tags_made" (.ref 0) h=some (("Boxes":Str),PV.int nt):=by
 unfold wb;rw[ak e rfl];rfl
theorem Ry{h:List aj}{nb nt y:Int}{ρ:List (Option PV)}(e:h[0]?=some (jk nb nt)):ek eL eM "boxes_made" (.ref 0) (.int y) ⟨ρ,h⟩=some ⟨ρ,h.set 0 (jk y nt)⟩:=by
 rw[eA e (by kernel_rfl)]
 rfl
theorem Rz{h:List aj}{nb nt y:Int}{ρ:List (Option PV)}(e:h[0]?=some (jk nb nt)):ek eL eM "tags_made" (.ref 0) (.int y) ⟨ρ,h⟩=some ⟨ρ,h.set 0 (jk nb y)⟩:=by
 rw[eA e (by kernel_rfl)]
 rfl
theorem RB(k:Nat){g:List aj}{m t:Int}{v:PV}:Ey (run aM k) "Box" [.ref g.length,.int m,.int t,v] (g++[⟨.ins "Box" [],[]⟩])=some (.ok .aL,g++[jj m t v]):=by
 rw[Q6];have e1:∀ρ,ek eL eM "number" (.ref g.length) (.int m) ⟨ρ,g++[⟨.ins "Box" [],[]⟩]⟩=some ⟨ρ,g++[⟨.ins "Box" ["number"],[.int m]⟩]⟩:=λρ=>f7 (by kernel_rfl)
 have e2:∀ρ,ek eL eM "pile" (.ref g.length) (.lst [.au [.int t,.str "own"]]) ⟨ρ,g++[⟨.ins "Box" ["number"],[.int m]⟩]⟩=some ⟨ρ,g++[⟨.ins "Box" ["number","pile"],[.int m,et t]⟩]⟩:=λρ=>f7 (by kernel_rfl)
 have e3:∀ρ,ek eL eM "value" (.ref g.length) v ⟨ρ,g++[⟨.ins "Box" ["number","pile"],[.int m,et t]⟩]⟩=some ⟨ρ,g++[jj m t v]⟩:=λρ=>f7 (by kernel_rfl)
 simp only[↓bM,e1,e2,e3]
theorem LY(k:Nat){g:List aj}{Q:List PV}{t:Int}:Ey (run aM k) "Grip" [.ref g.length,.lst Q,.int t] (g++[⟨.ins "Grip" [],[]⟩])=some (.ok .aL,g++[Jv Q t]):=by
 rw[LP];have e1:∀ρ,ek eL eM "boxes" (.ref g.length) (.lst Q) ⟨ρ,g++[⟨.ins "Grip" [],[]⟩]⟩=some ⟨ρ,g++[⟨.ins "Grip" ["boxes"],[.lst Q]⟩]⟩:=λρ=>f7 (by kernel_rfl)
 have e2:∀ρ,ek eL eM "tag" (.ref g.length) (.int t) ⟨ρ,g++[⟨.ins "Grip" ["boxes"],[.lst Q]⟩]⟩=some ⟨ρ,g++[Jv Q t]⟩:=λρ=>f7 (by kernel_rfl)
 simp only[↓bM,e1,e2]
theorem IA(c:Nat){g:List aj}{n:Nat}{j t:Int}{v:PV}(W:Wd g (n+1)):∃h' m,run aM (c+1) "Boxes.new_box" [.ref 0,.int j,.int t,v] g=some (.ok (.ref g.length),h')/\h'.length=g.length+1/\Ch g h' [0,1]/\Wd h' n/\h'[g.length]?=some (jj m t v):=by
 have⟨nb,nt,es,h0,h1,hk⟩:=W;have e1:=RB c (g:=g) (m:=nb) (t:=t) (v:=v);have a0:(g++[jj nb t v])[0]?=some (jk nb nt):=bJ h0;have d0:=ak h0 rfl;have i0:=jW a0;have f0:=Rv a0;have s0:=λρ=>Ry (ρ:=ρ) (y:=nb+1) a0
 have l1:=d8 h1;obtain⟨g1,n8⟩:∃g1,g1=(g++[jj nb t v]).set 0 (jk (nb+1) nt):=⟨_,rfl⟩
 rw[<-n8]at s0;have c1:Ch (g++[jj nb t v]) g1 [0]:=by rw[n8];exact Ch.set _
 have b0:g1[0]?=some (jk (nb+1) nt):=by rw[n8];exact cC a0
 have b1:=c1.get (bJ (g:=[jj nb t v]) h1) (by simp)
 have bb:g1[g.length]?=some (jj nb t v):=c1.get cX (by intro z;rw[bh]at z;lia)
 have db0:=ak b0 rfl;have Rc:=ak b1 rfl;have dbb:=ak bb rfl;have ap:=λρ v=>fg (ρ:=ρ) (v:=v) b1 (by lia)
 have ad:∀h,A3 h (.int nb) (.int 1)=some (.int (nb+1)):=λh=>rfl
 refine⟨g1.set 1 ⟨.lst,es++[.au [.int j,.int (-1),.str "own",.int nb,.int t,.int (-1)]]⟩,nb,?_,?_,?_,?_,?_⟩
 ·rw[mD];simp only[↓bM,e1,d0,i0,f0,s0,db0,Rc,dbb,ap,ad]
 ·rw[gD,n8,gD,bB];rfl
 ·exact(((Ch.app g _ [0,1]).tr c1 (by simp))).tr (Ch.set _) (by simp)
 ·exact⟨nb+1,nt,_,by rw[bY (by decide),b0],cC b1,by rw[bB];show es.length+1+n<=_;lia⟩
 ·rw[bY (by lia),bb]
noncomputable def dB:Nat->List PV->Pl
 | _,[]=>[]
 | n,v::vs=>(n,v)::dB (n+1) vs
theorem yR(c:Nat){j t:Int}:∀(vs:List PV) (g:List aj) (n:Nat),Wd g (n+vs.length)->∃h',fy (oC (dh 1) (yu [("Boxes","Boxes.new_box",4)] (run aM (c+1)) "new_box" (rd 3) Q2) [none,none,some (.int j),some (.ref 0),some (.int t)]) vs g=some ((dB g.length vs).map λx=>.ref x.1,h')/\h'.length=g.length+vs.length/\Ch g h' [0,1]/\Wd h' n/\∀x∈dB g.length vs,∃m,h'[x.1]?=some (jj m t x.2)
 | [],g,n,W=>⟨g,rfl,rfl,Ch.refl _ _,W,λx hx=>by cases hx⟩
 | v::vs,g,n,W=>by
  rw[cq]at W;obtain⟨h1,m,e1,l1,c1,w1,b1⟩:=IA c (j:=j) (t:=t) (v:=v) (n:=n+vs.length) (W.mono (by lia))
  have⟨nb,nt,es,h0,Y7,hk⟩:=W;have mt:=λL=>iT (L:=L) (m:="new_box") h0 (by kernel_rfl)
  obtain⟨h2,e2,l2,c2,w2,b2⟩:=yR c (j:=j) (t:=t) vs h1 n w1;have bd:oC (dh 1) (yu [("Boxes","Boxes.new_box",4)] (run aM (c+1)) "new_box" (rd 3) Q2) [none,none,some (.int j),some (.ref 0),some (.int t)] v g=some (some (.ref g.length),h1):=by
   refine Q8 (st1:=⟨[none,some v,some (.int j),some (.ref 0),some (.int t)],g⟩) (Q5:=[none,some v,some (.int j),some (.ref 0),some (.int t)]) rfl ?_;refine aY ?_;simp only[↓fA,e1,mt]
  refine⟨h2,?_,by rw[l2,l1,cq];lia,c1.tr c2 (λ_ h _=>h),w2,?_⟩
  ·rw[rp bd e2,l1];rfl
  ·intro x hx;rcases aG.mp hx with rfl | hx
   ·have:=d8 Y7;exact⟨m,c2.get b1 (by intro z;simp only[aG,bG,bH]at z;lia)⟩
   ·rw[l1]at b2;exact b2 x hx
theorem C0(c:Nat){g:List aj}{n:Nat}{j:Int}{vs:List PV}(hv:vs.length<=2)(W:Wd g (n+2)):∃h',run aM (c+2) "Boxes.owned" [.ref 0,.int j,.lst vs] g=some (.ok (.ref (g.length+vs.length)),h')/\h'.length=g.length+vs.length+1/\Ch g h' [0,1]/\Wd h' n/\xh h' (g.length+vs.length) (dB g.length vs):=by
 have⟨nb,nt,es,h0,h1,hk⟩:=W;have mt:=λL=>iT (L:=L) (m:="new_tag") h0 (by kernel_rfl)
 have i0:=jW h0;have f0:=Rx h0;have s0:=λρ=>Rz (ρ:=ρ) (y:=nt+1) h0
 obtain⟨g1,n8⟩:∃g1,g1=g.set 0 (jk nb (nt+1)):=⟨_,rfl⟩
 rw[<-n8]at s0;have b0:g1[0]?=some (jk nb (nt+1)):=by rw[n8];exact cC h0
 have c1:Ch g g1 [0]:=by rw[n8];exact Ch.set _
 have gl:g1.length=g.length:=by rw[n8,gD]
 have db0:=ak b0 rfl;have ad:∀h,A3 h (.int nt) (.int 1)=some (.int (nt+1)):=λh=>rfl
 have su:∀h,KA h (.int (nt+1)) (.int 1)=some (.int nt):=λh=>by show some (PV.int (nt+1-1))=_;rw[Int.add_sub_cancel]
 have e1:run aM (c+1) "Boxes.new_tag" [.ref 0] g=some (.ok (.int nt),g1):=by
  rw[mC];simp only[↓bM,i0,f0,s0,db0,ad,su]
 have W1:Wd g1 (n+vs.length):=⟨nb,nt+1,es,b0,c1.get h1 (by simp),by lia⟩
 obtain⟨h2,e2,l2,c2,w2,b2⟩:=yR c (j:=j) (t:=nt) vs g1 n W1;have e3:=LY (c+1) (g:=h2) (Q:=ly (dB g1.length vs)) (t:=nt);have l3:vs.length<=4000000:=aR hv (by decide)
 rw[gl]at e2 b2 l2 e3;refine⟨h2++[Jv (ly (dB g.length vs)) nt],?_,by rw[bB,l2];rfl,((c1.mono (by simp)).tr c2 (λ_ h _=>h)).tr (Ch.app _ _ []) (by simp),w2.ch (Ch.app _ _ []) (by simp),nt,?_,λx hx=>?_⟩
 ·rw[l2]at e3;have e3:Ey (run aM (c+1)) "Grip" [.ref (g.length+vs.length),.lst ((dB g.length vs).map λx=>.ref x.1),.int nt] (h2++[⟨.ins "Grip" [],[]⟩])=some (.ok .aL,h2++[Jv (ly (dB g.length vs)) nt]):=e3
  rw[oI];simp only[↓bM,e1,e2,e3,mt,l2,l3]
 ·rw[<-l2];exact cX
 ·obtain⟨m,hm⟩:=b2 x hx;exact⟨m,bJ hm⟩
end bI
set_option maxHeartbeats 4000000
namespace bI
open PySem L2 L2.U
noncomputable def nL:N5->Nat
 | .e=>2
 | _=>1
theorem IB(c:Nat)(N:Nm)(x:N5):∃p h' q,run aM (c+2) "leaves" [kC N x] []=some (.ok p,h')/\iu h' p=some q/\∀h,ki h [q]=some (.int (nL x:Int)):=by
 cases x with
 | e =>
  have e1:run aM (c+1) "leaves" [.au [.str "strip",.int (N.y:Int)]] []=some (.ok (.au [.au [.str "strip",.int (N.y:Int)]]),[]):=by
   rw[eN];simp only[↓bM]
  have e2:run aM (c+1) "leaves" [.au [.str "num"]] []=some (.ok (.au [.au [.str "num"]]),[]):=by
   rw[eN];simp only[↓bM]
  have i0:∀h,bu h (kC N .e) (.int 0)=some (.str "rec"):=λh=>rfl
  have i1:∀h,bu h (kC N .e) (.int 1)=some (.au [.au [.str "num"],.au [.str "strip",.int (N.y:Int)]]):=λh=>rfl
  have x1:∀ρ a,oB (.ref 0) [.au [a]] ⟨ρ,[⟨.lst,[]⟩]⟩=some (.ok .aL,⟨ρ,[⟨.lst,[a]⟩]⟩):=λρ a=>rfl
  have x2:∀ρ a b,oB (.ref 0) [.au [b]] ⟨ρ,[⟨.lst,[a]⟩]⟩=some (.ok .aL,⟨ρ,[⟨.lst,[a,b]⟩]⟩):=λρ a b=>rfl
  refine⟨.au [.au [.str "num"],.au [.str "strip",.int (N.y:Int)]],[⟨.lst,[.au [.str "num"],.au [.str "strip",.int (N.y:Int)]]⟩],.au [.au [.str "num"],.au [.str "strip",.int (N.y:Int)]],?_,rfl,λh=>rfl⟩
  rw[eN];simp only[↓bM,e1,e2,i0,i1,x1,x2]
 | a=>exact⟨.au [kC N .a],[],.au [kC N .a],by rw[eN];simp only[↓bM,kC,yJ],rfl,λh=>rfl⟩
 | b=>exact⟨.au [kC N .b],[],.au [kC N .b],by rw[eN];simp only[↓bM,kC,yJ],rfl,λh=>rfl⟩
 | c=>exact⟨.au [kC N .c],[],.au [kC N .c],by rw[eN];simp only[↓bM,kC,yK],rfl,λh=>rfl⟩
 | d=>exact⟨.au [kC N .d],[],.au [kC N .d],by rw[eN];simp only[↓bM,kC],rfl,λh=>rfl⟩
theorem C1(c:Nat){g:List aj}{n:Nat}{j:Int}(N:Nm)(x:N5)(W:Wd g (n+2)):∃h',run aM (c+4) "Boxes.let" [.ref 0,.int j,kC N x] g=some (.ok (.ref (g.length+nL x)),h')/\h'.length=g.length+nL x+1/\Ch g h' [0,1]/\Wd h' n/\xh h' (g.length+nL x) (dB g.length (List.replicate (nL x) .aL)):=by
 obtain⟨p,hp,q,e1,e2,e3⟩:=IB (c+1) N x;have⟨nb,nt,es,h0,h1,hk⟩:=W;have mt:=λL=>iT (L:=L) (m:="owned") h0 (by kernel_rfl)
 have hE:=fx h0;have ih:=g9 (c+2) N x;obtain⟨h',o1,o2,o3,o4,o5⟩:=C0 (c+1) (j:=j) (vs:=List.replicate (nL x) .aL) (by cases x<;>simp[nL]) W
 rw[mT]at o1 o2 o5;have mu:∀h,jO h (.lst [.aL]) (.int (nL x:Int))=some (.lst (List.replicate (nL x) .aL)):=λh=>by cases x<;>rfl
 refine⟨h',?_,o2,o3,o4,o5⟩;have nr:ao [kC N x]=true:=by simp[ao,yM]
 rw[sO];simp only[↓bM,e1,e2,e3,mt,ih,o1,mu,hE,nr,yM,ao,noRef,bT,bQ,pW]
abbrev C4(es:List (Str×PV)):aj:=⟨.eS false (es.map λe=>mG e.1),es.map (·.2)⟩
theorem LZ{x:Str}{ys:List Str}(h:∀y∈ys,y≠x):mi (mG x) (ys.map mG)=false:=by
 unfold mi;rw[zH];intro k hk;obtain⟨y,hy,rfl⟩:=bZ.mp hk;have:mG y≠mG x:=λz=>h y hy (by unfold mG at z;injection z with z1 _;injection z1)
 simp[this]
theorem L0{h:List aj}{d:Nat}{es:List (Str×PV)}{x:Str}{v:PV}{ρ:List (Option PV)}(e:h[d]?=some (C4 es))(hl:es.length<100)(hd:∀e∈es,e.1≠x) :
  nM (.ref d) (.str x) v ⟨ρ,h⟩=some ⟨ρ,h.set d (C4 (es++[(x,v)]))⟩:=by
 have hn:=LZ (x:=x) (ys:=es.map (·.1)) (λy hy=>by obtain⟨e,he,rfl⟩:=bZ.mp hy;exact hd e he)
 rw[jw]at hn;show((jf h (.ref d)).bind λc=>match c.2.k with
  | .lst=>(nF (.str x)).bind λi=>(DI c.2.ps.length i).map λj=>(⟨ρ,h.set c.1 ⟨.lst,c.2.ps.set j v⟩⟩:b8)
  | .eS t mR=>(fV t (.str x)).bind λk=>if mR.length<ic then some ⟨ρ,h.set c.1 (iO t k v mR c.2.ps)⟩else none
  | _=>none)=_
 rw[dy e rfl];show(if(es.map λe=>mG e.1).length<ic then some (⟨ρ,h.set d (iO false (mG x) v (es.map λe=>mG e.1) (es.map (·.2)))⟩:b8)else none)=_
 rw[if_pos (by rw[aT];exact jx hl (by decide))]
 unfold iO;rw[if_neg (by rw[show mi (mG x) (es.map λe=>mG e.1)=false from hn];exact cw)]
 simp[C4]
theorem IC(k:Nat){g:List aj}{j:Int}{d:Nat}:Ey (run aM k) "Frame" [.ref g.length,.int j,.ref d] (g++[⟨.ins "Frame" [],[]⟩])=some (.ok .aL,g++[pf j d 0]):=by
 rw[Ig];have e1:∀ρ,ek eL eM "at" (.ref g.length) (.int j) ⟨ρ,g++[⟨.ins "Frame" [],[]⟩]⟩=some ⟨ρ,g++[⟨.ins "Frame" ["at"],[.int j]⟩]⟩:=λρ=>f7 (by kernel_rfl)
 have e2:∀ρ,ek eL eM "has" (.ref g.length) (.ref d) ⟨ρ,g++[⟨.ins "Frame" ["at"],[.int j]⟩]⟩=some ⟨ρ,g++[⟨.ins "Frame" ["at","has"],[.int j,.ref d]⟩]⟩:=λρ=>f7 (by kernel_rfl)
 have e3:∀ρ,ek eL eM "row" (.ref g.length) (.int 0) ⟨ρ,g++[⟨.ins "Frame" ["at","has"],[.int j,.ref d]⟩]⟩=some ⟨ρ,g++[pf j d 0]⟩:=λρ=>f7 (by kernel_rfl)
 simp only[↓bM,e1,e2,e3]
structure Vs where
 a:Int
 b:Int
 c:List Int
 d:Int
 n:Int
 s:List Int
def stP(s:List Int):PV:=.au (s.map .int)
structure Ra where
 a:PV
 b:PV
 c:PV
 d:PV
 n:PV
 s:PV
def ij(V:Vs):Ra:=⟨.int V.a,.int V.b,stP V.c,.int V.d,.int V.n,stP V.s⟩
noncomputable def Hn(N:Nm)(n:Nat)(A:Ra):List (Str×Nat×Pl):=[(N.a,n+2,[(n+1,A.a)]),(N.b,n+4,[(n+3,A.b)]),(N.c,n+6,[(n+5,A.c)]),(N.d,n+8,[(n+7,A.d)]),(N.e,n+11,[(n+9,A.n),(n+10,A.s)])]
noncomputable abbrev Jx(prog:PV)(w nu:Nat)(li:PV)(fl sd:Nat)(bW:Int):aj:=⟨.ins "Run" ["program","world","numbers","listed","frames","said","count"],[prog,.ref w,.ref nu,li,.ref fl,.ref sd,.int bW]⟩
structure cF (h:List aj) (R:Nat) (N:Nm) (F:List Rw) (w nu fl sd:Nat) (fs:List PV) (bW:Int) (bE:List Int):Prop where
 r:h[R]?=some (Jx (.au [fdP N F]) w nu (.lst [D9 N F]) fl sd bW)
 nu:h[nu]?=some ⟨.eS false [mG N.f],[.int 0]⟩
 fl:h[fl]?=some ⟨.lst,fs⟩
 sd:h[sd]?=some ⟨.lst,bE.map .int⟩
theorem cF.ch{h h':List aj}{A:List Nat}{N:Nm}{F:List Rw}{R w0 nu fl sd:Nat}{fs:List PV}{bW:Int}{bE:List Int}(hR:cF h R N F w0 nu fl sd fs bW bE)(c:Ch h h' A)(hA:R∉A/\nu∉A/\fl∉A/\sd∉A):cF h' R N F w0 nu fl sd fs bW bE :=
 ⟨c.get hR.r hA.1,c.get hR.nu hA.2.1,c.get hR.fl hA.2.2.1,c.get hR.sd hA.2.2.2⟩
theorem cF.app{h:List aj}(g:List aj){N:Nm}{F:List Rw}{R w0 nu fl sd:Nat}{fs:List PV}{bW:Int}{bE:List Int}(hR:cF h R N F w0 nu fl sd fs bW bE):cF (h++g) R N F w0 nu fl sd fs bW bE:=hR.ch (Ch.app h g []) (by simp)
theorem ID{h:List aj}{g:Nat}{es:List (Str×PV)}{x:Str}{v:PV}(e:h[g]?=some (C4 es))(hx:gZ (mG x) (es.map λe=>mG e.1) (es.map (·.2))=some v):bu h (.ref g) (.str x)=some v:=by
 have d:=ak e rfl;simp only[bu,d];exact hx
theorem xh.ch{h h':List aj}{A:List Nat}{g:Nat}{P:Pl}(G:xh h g P)(c:Ch h h' A)(hg:g∉A)(hp:∀x∈P,x.1∉A):xh h' g P:=by
 obtain⟨t,a1,a2⟩:=G;exact⟨t,c.get a1 hg,λx hx=>by obtain⟨m,hm⟩:=a2 x hx;exact⟨m,c.get hm (hp x hx)⟩⟩
end bI
set_option maxHeartbeats 4000000
namespace bI
open PySem L2 L2.U
theorem keep{A:List Nat}{x y:List aj}{d gg:Nat}{PP:Pl}(h4:4<d)(G:xh x gg PP)(cc:Ch x y A)(hA:A=[4]\/A=[0,1]\/A=[d])(h1:d<gg)(h2:∀z∈PP,d<z.1):xh y gg PP:=by
 have nn:∀{m:Nat},d<m->m∉A:=λhm z=>by rcases hA with rfl | rfl | rfl<;>simp only[aG,bG,bH]at z<;>lia
 exact G.ch cc (nn h1) λz hz=>nn (h2 z hz)
theorem mH{h g h':List aj}{d n:Nat}{es:List (Str×PV)}(x:Str)(v:PV)(hd:d=h.length)(h5:5<d)(D:g[d]?=some (C4 es))(k:Ch h g [0,1])(q:Ch g h' [0,1])(W:Wd h' n)(hes:es.length<100)(hx:∀e∈es,e.1≠x) :
  ∃t,(∀ρ,nM (.ref d) (.str x) v ⟨ρ,h'⟩=some ⟨ρ,t⟩)/\Ch h' t [d]/\t[d]?=some (C4 (es++[(x,v)]))/\t.length=h'.length/\Wd t n/\Ch h t [0,1]:=by
 have E:=q.get D (by intro z;simp only[aG,bG,bH]at z;lia)
 have u:Ch h' (h'.set d (C4 (es++[(x,v)]))) [d]:=Ch.set _;exact⟨_,λρ=>L0 E hes hx,u,cC E,gD,W.ch u (by simp only[aG,bG,bH];lia),(k.tr q (λ_ h _=>h)).tr u (λm hm hl=>by simp only[aG,bG,bH]at hm;lia)⟩
theorem L6(c:Nat){h t:List aj}{N:Nm}{F:List Rw}{fs:List PV}{bW:Int}{bE:List Int}{d j n:Nat}(hR:cF h 2 N F 0 3 4 5 fs bW bE)(k:Ch h t [0,1])(hd:d=h.length)(lt:t.length=d+12)(W:Wd t n)(hfs:fs.length<=4000) :
  ∃h9,(∀ρ,fu (dN fw) (.ref 4) [.ref (d+12)] ⟨ρ,t++[pf j d 0]⟩=some (.ok .aL,⟨ρ,h9⟩))/\Ey (run aM c) "Frame" [.ref (d+12),.int (j:Int),.ref d] (t++[⟨.ins "Frame" [],[]⟩])=some (.ok .aL,t++[pf j d 0])/\cQ (t++[pf j d 0]) (.ref 4)=some (.lst,fs)/\cF h9 2 N F 0 3 4 5 (fs++[.ref (d+12)]) bW bE/\Ch t h9 [4]/\h9[d+12]?=some (pf j d 0)/\Wd h9 n/\Ch h h9 [0,1,4]/\h9.length=d+13:=by
 have R3:=hR.ch k (by simp)
 have R4:=R3.app [pf j d 0];have f1:=IC c (g:=t) (j:=(j:Int)) (d:=d);rw[lt]at f1;obtain⟨h9,Wx⟩:∃h9,h9=(t++[pf j d 0]).set 4 ⟨.lst,fs++[.ref (d+12)]⟩:=⟨_,rfl⟩
 have c9:Ch t h9 [4]:=by
  rw[Wx];exact(Ch.app t [pf j d 0] [4]).tr (Ch.set _) (λ_ h _=>h)
 refine⟨h9,λρ=>by rw[Wx];exact fg R4.fl (by lia),f1,ak R4.fl rfl,⟨c9.get R3.r (by simp),c9.get R3.nu (by simp),by rw[Wx];exact cC R4.fl,c9.get R3.sd (by simp)⟩,c9,?_,W.ch c9 (by simp),(k.mono (by simp)).tr c9 (by simp),by rw[Wx,gD,bB,lt];rfl⟩
 rw[Wx,bY (by lia),<-lt]
 exact cX
theorem bt.ne{N:Nm}(K:bt N){x y:N5}(h:x≠y):N.n x≠N.n y:=λe=>h (K.n e)
theorem L7(c:Nat){h:List aj}{g n:Nat}{N:Nm}(K:bt N){F:List Rw}{fs:List PV}{bW:Int}{bE:List Int}{va:Int}{es:List (Str×PV)}
  (hR:cF h 2 N F 0 3 4 5 fs bW bE) (W:Wd h (n+10)) (hg:h[g]?=some (C4 es)) (ga:gZ (mG N.a) (es.map λe=>mG e.1) (es.map (·.2))=some (.lst [.int va])) (hfs:fs.length<=4000) :
  ∃h',run aM (c+8) "begin" [.ref 2,.int 0,.ref g] h=some (.ok .aL,h')/\cF h' 2 N F 0 3 4 5 (fs++[.ref (h.length+12)]) bW bE/\lH h' (h.length+12) h.length 0 0 (Hn N h.length ⟨.int va,.aL,.aL,.aL,.aL,.aL⟩)/\Wd h' n/\Ch h h' [0,1,4]/\h'.length=h.length+13:=by
 have SM:5<h.length:=d8 hR.sd;obtain⟨d,hd⟩:∃d,d=h.length:=⟨_,rfl⟩
 rw[<-hd]at SM ⊢;obtain⟨g0,Wy⟩:∃g0,g0=h++[⟨.eS false [],[]⟩]:=⟨_,rfl⟩
 have l0:g0.length=d+1:=by rw[Wy,bB,hd];rfl
 have k0:Ch h g0 [0,1]:=by rw[Wy];exact Ch.app _ _ _
 have D0:g0[d]?=some (C4 []):=by rw[Wy,hd];exact cX
 have W0:Wd g0 ((n+8)+2):=by rw[Wy];exact W.ch (Ch.app h _ []) (by simp)
 obtain⟨h1,o1,p1,q1,W1,G1⟩:=C0 (c+5) (j:=0) (vs:=[.int va]) (by simp) W0
 rw[l0]at o1 p1 G1;have o1:run aM (c+7) "Boxes.owned" [.ref 0,.int 0,.lst [.int va]] g0=some (.ok (.ref (d+2)),h1):=o1;have G1:xh h1 (d+2) (dB (d+1) [.int va]):=G1;obtain⟨t1,s1,u1,D1,L1,V1,k1⟩:=mH (N.n .a) (.ref (d+2)) hd SM D0 k0 q1 W1 (by simp) (by simp)
 have L1:t1.length=d+3:=L1.trans p1;obtain⟨h2,o2,p2,q2,W2,G2⟩:=C1 (c+3) (n:=n+6) (j:=0) N .b V1;rw[L1]at o2 p2 G2;have o2:run aM (c+7) "Boxes.let" [.ref 0,.int 0,kC N .b] t1=some (.ok (.ref (d+4)),h2):=o2
 have G2:xh h2 (d+4) (dB (d+3) (List.replicate 1 .aL)):=G2;obtain⟨t2,s2,u2,D2,L2,V2,k2⟩:=mH (N.n .b) (.ref (d+4)) hd SM D1 k1 q2 W2 (by simp) (by intro e he;simp only[dG,kL,aG,bG,bH]at he;rcases he with rfl<;>(dsimp only;apply K.ne;decide))
 have L2:t2.length=d+5:=L2.trans p2;obtain⟨h3,o3,p3,q3,W3,G3⟩:=C1 (c+3) (n:=n+4) (j:=0) N .c V2;rw[L2]at o3 p3 G3;have o3:run aM (c+7) "Boxes.let" [.ref 0,.int 0,kC N .c] t2=some (.ok (.ref (d+6)),h3):=o3
 have G3:xh h3 (d+6) (dB (d+5) (List.replicate 1 .aL)):=G3;obtain⟨t3,s3,u3,D3,L3,V3,k3⟩:=mH (N.n .c) (.ref (d+6)) hd SM D2 k2 q3 W3 (by simp) (by intro e he;simp only[dG,kL,aG,bG,bH]at he;rcases he with rfl | rfl<;>(dsimp only;apply K.ne;decide))
 have L3:t3.length=d+7:=L3.trans p3;obtain⟨h4,o4,p4,q4,W4,G4⟩:=C1 (c+3) (n:=n+2) (j:=0) N .d V3;rw[L3]at o4 p4 G4;have o4:run aM (c+7) "Boxes.let" [.ref 0,.int 0,kC N .d] t3=some (.ok (.ref (d+8)),h4):=o4
 have G4:xh h4 (d+8) (dB (d+7) (List.replicate 1 .aL)):=G4;obtain⟨t4,s4,u4,D4,L4,V4,k4⟩:=mH (N.n .d) (.ref (d+8)) hd SM D3 k3 q4 W4 (by simp) (by intro e he;simp only[dG,kL,aG,bG,bH]at he;rcases he with rfl | rfl | rfl<;>(dsimp only;apply K.ne;decide))
 have L4:t4.length=d+9:=L4.trans p4;obtain⟨h5,o5,p5,q5,W5,G5⟩:=C1 (c+3) (n:=n) (j:=0) N .e V4;rw[L4]at o5 p5 G5;have o5:run aM (c+7) "Boxes.let" [.ref 0,.int 0,kC N .e] t4=some (.ok (.ref (d+11)),h5):=o5
 have G5:xh h5 (d+11) (dB (d+9) (List.replicate 2 .aL)):=G5;obtain⟨t5,s5,u5,D5,L5,V5,k5⟩:=mH (N.n .e) (.ref (d+11)) hd SM D4 k4 q5 W5 (by simp) (by intro e he;simp only[dG,kL,aG,bG,bH]at he;rcases he with rfl | rfl | rfl | rfl<;>(dsimp only;apply K.ne;decide))
 have L5:t5.length=d+12:=L5.trans p5;have r0:=ak (hR.ch k0 (by simp)).r rfl
 have r1:=ak (hR.ch k1 (by simp)).r rfl
 have r2:=ak (hR.ch k2 (by simp)).r rfl
 have r3:=ak (hR.ch k3 (by simp)).r rfl
 have r4:=ak (hR.ch k4 (by simp)).r rfl
 have r5:=ak (hR.ch k5 (by simp)).r rfl
 have r9:=ak (hR.ch k5 (by simp)).fl rfl
 have wm:∀{t:List aj} {k:Nat} (L:List (Str×(Str×Nat))) (m:Str),Wd t k->(["entries","boxes_made","tags_made"]:List Str).contains m=false->Em L m (.ref 0) t=L.lookup ("Boxes":Str):=λL m ⟨_,_,_,a0,_,_⟩ hm=>iT a0 hm
 have mo0:=λL=>wm L "owned" W0 (by kernel_rfl)
 have ml1:=λL=>wm L "let" V1 (by kernel_rfl)
 have ml2:=λL=>wm L "let" V2 (by kernel_rfl)
 have ml3:=λL=>wm L "let" V3 (by kernel_rfl)
 have ml4:=λL=>wm L "let" V4 (by kernel_rfl)
 have e2:∀h,bu h (.au [fdP N F]) (.int 0)=some (fdP N F):=λh=>rfl
 have e3:∀h,bu h (fdP N F) (.int 1)=some (.au [sS N .a]):=λh=>rfl
 have e4:∀h,bu h (fdP N F) (.int 3)=some (.au [sS N .b,sS N .c,sS N .d,sS N .e]):=λh=>rfl
 have e5:=g9 (c+6) N;have g01:g∉[0,1]:=by
  obtain⟨nb,nt,So,a0,a1,_⟩:=W;simp only[aG,bG,bH,not_or];exact⟨dS hg a0 (by intro z;cases z),dS hg a1 (by intro z;cases z)⟩
 have e6:bu g0 (.ref g) (.str (N.n .a))=_:=ID (k0.get hg g01) ga;have SN:=fx (hR.ch k0 (by simp)).r
 have oR:=fx (hR.ch k1 (by simp)).r
 have IE:=fx (hR.ch k2 (by simp)).r
 have hE3:=fx (hR.ch k3 (by simp)).r
 have hE4:=fx (hR.ch k4 (by simp)).r
 obtain⟨h9,a1,f1,r8,R9,c9,fr9,W9,ca,la⟩:=L6 (c+7) (j:=0) hR k5 hd L5 V5 hfs;refine⟨h9,?_,R9,⟨fr9,c9.get D5 (by simp;lia),?_,?_⟩,W9,ca,la⟩
 ·have f1:Ey (run aM (c+7)) "Frame" [.ref (d+12),.int 0,.ref d] (t5++[⟨.ins "Frame" [],[]⟩])=some (.ok .aL,t5++[pf 0 d 0]):=f1;have a1:∀ρ,fu (dN fw) (.ref 4) [.ref (d+12)] ⟨ρ,t5++[pf 0 d 0]⟩=some (.ok .aL,⟨ρ,h9⟩):=a1
  have r8:cQ (t5++[pf 0 d 0]) (.ref 4)=some (.lst,fs):=r8;rw[Ez];simp only[↓bM,<-Wy,<-hd,r0,r1,r2,r3,r4,r5,r8,r9,mo0,ml1,ml2,ml3,ml4,e2,e3,e4,e5,e6,o1,o2,o3,o4,o5,s1,s2,s3,s4,s5,SN,oR,IE,hE3,hE4,f1,L5,a1,yM,ao,noRef,bT,bQ,pW]
 ·have kp:=λ{A x y gg PP}=>@keep A x y d gg PP (by lia)
  intro e he;simp only[Hn,aG,bG,bH]at he;rcases he with rfl | rfl | rfl | rfl | rfl
  ·have z:∀z∈dB (d+1) [.int va],d<z.1:=by simp[dB]<;>lia
   show xh h9 (d+2) _;exact kp (kp (kp (kp (kp (kp (kp (kp (kp (kp G1 u1 (by simp) (by lia) z) q2 (by simp) (by lia) z) u2 (by simp) (by lia) z) q3 (by simp) (by lia) z) u3 (by simp) (by lia) z) q4 (by simp) (by lia) z) u4 (by simp) (by lia) z) q5 (by simp) (by lia) z) u5 (by simp) (by lia) z) c9 (by simp) (by lia) z
  ·have z:∀z∈dB (d+3) (List.replicate 1 .aL),d<z.1:=by simp[dB]<;>lia
   show xh h9 (d+4) _;exact kp (kp (kp (kp (kp (kp (kp (kp G2 u2 (by simp) (by lia) z) q3 (by simp) (by lia) z) u3 (by simp) (by lia) z) q4 (by simp) (by lia) z) u4 (by simp) (by lia) z) q5 (by simp) (by lia) z) u5 (by simp) (by lia) z) c9 (by simp) (by lia) z
  ·have z:∀z∈dB (d+5) (List.replicate 1 .aL),d<z.1:=by simp[dB]<;>lia
   show xh h9 (d+6) _;exact kp (kp (kp (kp (kp (kp G3 u3 (by simp) (by lia) z) q4 (by simp) (by lia) z) u4 (by simp) (by lia) z) q5 (by simp) (by lia) z) u5 (by simp) (by lia) z) c9 (by simp) (by lia) z
  ·have z:∀z∈dB (d+7) (List.replicate 1 .aL),d<z.1:=by simp[dB]<;>lia
   show xh h9 (d+8) _;exact kp (kp (kp (kp G4 u4 (by simp) (by lia) z) q5 (by simp) (by lia) z) u5 (by simp) (by lia) z) c9 (by simp) (by lia) z
  ·have z:∀z∈dB (d+9) (List.replicate 2 .aL),d<z.1:=by simp[dB]<;>lia
   show xh h9 (d+11) _;exact kp (kp G5 u5 (by simp) (by lia) z) c9 (by simp) (by lia) z
 ·intro e he;simp only[Hn,aG,bG,bH]at he;rcases he with rfl | rfl | rfl | rfl | rfl<;>simp
end bI
set_option maxHeartbeats 2000000
namespace bI
open PySem L2 L2.U
noncomputable def gv(V:Vs):Sp->List Int
 | .i _=>V.c
 | .c=>V.c
 | _=>V.s
def sT(V:Vs):Sp->PV
 | .a=>.int V.a
 | .b=>.int V.b
 | .d=>.int V.d
 | .n=>.int V.n
 | s=>stP (gv V s)
def Jy(V:Vs):Ix->List PV
 | .a=>[.lst [.int V.a]]
 | .b=>[.lst [.int V.b]]
 | _=>[]
def E6(V:Vs):Sp->List PV
 | .i x=>Jy V x
 | .j x=>Jy V x
 | _=>[]
def yS(V:Vs):Op->List PV
 | .num _=>[]
 | .sp s=>E6 V s++[.lst [sT V s]]
noncomputable def iw(V:Vs)(n:Nat):Ix->Nat
 | .at i=>i
 | .a=>(V.a%(n:Int)).toNat
 | .b=>(V.b%(n:Int)).toNat
def SO(V:Vs):Sp->Int
 | .a=>V.a
 | .b=>V.b
 | .d=>V.d
 | .n=>V.n
 | .i x=>V.c.getD (iw V V.c.length x) 0
 | .j x=>V.s.getD (iw V V.s.length x) 0
 | _=>0
def opV(V:Vs):Op->Int
 | .num i=>i
 | .sp s=>SO V s
def Bj(V:Vs):Op->Prop
 | .sp (.i (.at i))=>i<V.c.length
 | .sp (.j (.at i))=>i<V.s.length
 | .sp .s=>False
 | .sp .c=>False
 | _=>True
structure Hs (V:Vs):Prop where
 c:1<=V.c.length
 s:1<=V.s.length
theorem wN{h:List aj}{L:List PV}{v:PV}{ρ:List (Option PV)}(hl:L.length<=4000):fu (dN fw) (.ref h.length) [v] ⟨ρ,h++[⟨.lst,L⟩]⟩=some (.ok .aL,⟨ρ,h++[⟨.lst,L++[v]⟩]⟩):=by
 rw[wM cX hl,CJ]
theorem jX{L:List Int}{i:Nat}{h:List aj}(hi:i<L.length):bu h (stP L) (.int (i:Int))=some (.int (L.getD i 0)):=atI_nat (by rw[cY,jm,dU hi];rfl)
theorem mI{L:List Int}{h:List aj}:ki h [stP L]=some (.int (L.length:Int)):=by
 show some (PV.int ((L.map PV.int).length:Int))=_;rw[aT]
theorem iU{x:Int}{n:Nat}{h:List aj}(hn:1<=n):cE h (.int x) (.int (n:Int))=some (.int (((x%(n:Int)).toNat:Nat):Int)):=by
 show(if decide (0<(n:Int))=true then some (PV.int (x%(n:Int)))else none)=_
 rw[if_pos (dW (by lia)),zD (ju _ (by lia))]
theorem Bk{i n:Nat}{h:List aj}(hn:i<n):cE h (.int (i:Int)) (.int (n:Int))=some (.int (i:Int)):=by
 rw[iU (by lia)]
 rw[Int.emod_eq_of_lt (by lia) (by lia),kH]
theorem mod_lt{x:Int}{n:Nat}(hn:1<=n):(x%(n:Int)).toNat<n:=by
 have:=pH x (show(0:Int)<n by lia)
 have:=ju x (show(n:Int)≠0 by lia)
 lia
noncomputable def ctO:Op->dJ
 | .num _=>.ct
 | _=>.nx
theorem L8(c:Nat){N:Nm}{V:Vs}{o:Op}{h:List aj}{L:List PV}{r p:PV}{k:Nat}{x4 x5 x6:Option PV}(hs:Hs V)(hL:L.length<=100)(hk:k<=100)(ho:Bj V o)
  (hp:∀(i:Nat) v,(yS V o)[i]?=some v->bu (h++[⟨.lst,L⟩]) p (.int ((k+i:Nat):Int))=some v) :
  ∃y4 y5 y6,az (run aM c) ⟨[some r,some p,some (.ref h.length),some (.int (k:Int)),some (gX N o),x5,x6],h++[⟨.lst,L⟩]⟩=some (.ok (ctO o),⟨[some r,some p,some (.ref h.length),some (.int ((k+(yS V o).length:Nat):Int)),y4,y5,y6],h++[⟨.lst,L++[.int (opV V o)]⟩]⟩):=by
 have a1:=λρ v=>wN (h:=h) (ρ:=ρ) (v:=v) (L:=L) (by lia)
 have d1:cQ (h++[⟨.lst,L⟩]) (.ref h.length)=some (.lst,L):=ak cX rfl;have ad:∀h (i:Nat),A3 h (.int (i:Int)) (.int 1)=some (.int ((i+1:Nat):Int)):=λh i=>rfl
 cases o with
 | num i =>
  refine⟨some (gX N (.num i)),x5,x6,?_⟩;refine aY ?_
  delta az gy
  simp only[↓fA,a1,d1,gX];rfl
 | sp s =>
  cases s with
  | s=>exact absurd ho id
  | c=>exact absurd ho id
  | a =>
   have p0:bu (h++[⟨.lst,L⟩]) p (.int (k:Int))=some _:=hp 0 _ rfl;refine⟨some (gm N .a),some .aL,some (.int V.a),?_⟩;refine aY ?_
   delta az gy
   simp only[↓fA,a1,d1,p0,ad,gE];rfl
  | b =>
   have p0:bu (h++[⟨.lst,L⟩]) p (.int (k:Int))=some _:=hp 0 _ rfl;refine⟨some (gm N .b),some .aL,some (.int V.b),?_⟩;refine aY ?_
   delta az gy
   simp only[↓fA,a1,d1,p0,ad,gE];rfl
  | d =>
   have p0:bu (h++[⟨.lst,L⟩]) p (.int (k:Int))=some _:=hp 0 _ rfl;refine⟨some (gm N .d),some .aL,some (.int V.d),?_⟩;refine aY ?_
   delta az gy
   simp only[↓fA,a1,d1,p0,ad,gE];rfl
  | n =>
   have p0:bu (h++[⟨.lst,L⟩]) p (.int (k:Int))=some _:=hp 0 _ rfl;refine⟨some (gm N .n),some .aL,some (.int V.n),?_⟩;refine aY ?_
   delta az gy
   simp only[↓fA,a1,d1,p0,ad,gE];rfl
  | i x =>
   have e3:∀h,ki h [sT V (.i x)]=_:=λh=>mI (L:=V.c) (h:=h)
   cases x with
   | «at» i =>
    have p0:bu (h++[⟨.lst,L⟩]) p (.int (k:Int))=some _:=hp 0 _ rfl;have e1:∀h,cE h (yL N (.at i)) (.int (V.c.length:Int))=_:=λh=>Bk ho
    have e2:∀h,bu h (sT V (.i (.at i))) (.int (i:Int))=_:=λh=>jX (L:=V.c) ho
    refine⟨some (gm N (.i (.at i))),some (.int (i:Int)),some (stP V.c),?_⟩;refine aY ?_
    delta az gy
    simp only[↓fA,a1,d1,p0,ad,e1,e2,e3,gE];rfl
   | a =>
    have p0:bu (h++[⟨.lst,L⟩]) p (.int (k:Int))=some _:=hp 0 _ rfl;have p1:=hp 1 _ rfl;have e1:∀h,cE h (.int V.a) (.int (V.c.length:Int))=_:=λh=>iU hs.c
    have e2:∀h,bu h (sT V (.i .a)) (.int ((V.a%(V.c.length:Int)).toNat:Int))=_:=λh=>jX (L:=V.c) (mod_lt hs.c)
    refine⟨some (gm N (.i .a)),some (.int V.a),some (stP V.c),?_⟩;refine aY ?_
    delta az gy
    simp only[↓fA,a1,d1,p0,p1,ad,e1,e2,e3,gE];rfl
   | b =>
    have p0:bu (h++[⟨.lst,L⟩]) p (.int (k:Int))=some _:=hp 0 _ rfl;have p1:=hp 1 _ rfl;have e1:∀h,cE h (.int V.b) (.int (V.c.length:Int))=_:=λh=>iU hs.c
    have e2:∀h,bu h (sT V (.i .b)) (.int ((V.b%(V.c.length:Int)).toNat:Int))=_:=λh=>jX (L:=V.c) (mod_lt hs.c)
    refine⟨some (gm N (.i .b)),some (.int V.b),some (stP V.c),?_⟩;refine aY ?_
    delta az gy
    simp only[↓fA,a1,d1,p0,p1,ad,e1,e2,e3,gE];rfl
  | j x =>
   have e3:∀h,ki h [sT V (.j x)]=_:=λh=>mI (L:=V.s) (h:=h)
   cases x with
   | «at» i =>
    have p0:bu (h++[⟨.lst,L⟩]) p (.int (k:Int))=some _:=hp 0 _ rfl;have e1:∀h,cE h (yL N (.at i)) (.int (V.s.length:Int))=_:=λh=>Bk ho
    have e2:∀h,bu h (sT V (.j (.at i))) (.int (i:Int))=_:=λh=>jX (L:=V.s) ho
    refine⟨some (gm N (.j (.at i))),some (.int (i:Int)),some (stP V.s),?_⟩;refine aY ?_
    delta az gy
    simp only[↓fA,a1,d1,p0,ad,e1,e2,e3,gE];rfl
   | a =>
    have p0:bu (h++[⟨.lst,L⟩]) p (.int (k:Int))=some _:=hp 0 _ rfl;have p1:=hp 1 _ rfl;have e1:∀h,cE h (.int V.a) (.int (V.s.length:Int))=_:=λh=>iU hs.s
    have e2:∀h,bu h (sT V (.j .a)) (.int ((V.a%(V.s.length:Int)).toNat:Int))=_:=λh=>jX (L:=V.s) (mod_lt hs.s)
    refine⟨some (gm N (.j .a)),some (.int V.a),some (stP V.s),?_⟩;refine aY ?_
    delta az gy
    simp only[↓fA,a1,d1,p0,p1,ad,e1,e2,e3,gE];rfl
   | b =>
    have p0:bu (h++[⟨.lst,L⟩]) p (.int (k:Int))=some _:=hp 0 _ rfl;have p1:=hp 1 _ rfl;have e1:∀h,cE h (.int V.b) (.int (V.s.length:Int))=_:=λh=>iU hs.s
    have e2:∀h,bu h (sT V (.j .b)) (.int ((V.b%(V.s.length:Int)).toNat:Int))=_:=λh=>jX (L:=V.s) (mod_lt hs.s)
    refine⟨some (gm N (.j .b)),some (.int V.b),some (stP V.s),?_⟩;refine aY ?_
    delta az gy
    simp only[↓fA,a1,d1,p0,p1,ad,e1,e2,e3,gE];rfl
noncomputable def bX:Rw->List Op
 | .put _ o=>[o]
 | .fill _ o=>[o]
 | .set _ _ o p=>[o,p]
 | .jV o=>[o]
 | .ifs o p _=>[o,p]
 | _=>[]
theorem Bm(c:Nat){N:Nm}(r:Rw):run aM (c+2) "operands" [bK N r] []=some (.ok (.lst ((bX r).map (gX N))),[]):=by
 cases r<;>kernel_rfl
def iy(V:Vs):List Op->List PV
 | []=>[]
 | o::os=>yS V o++iy V os
theorem C5(c:Nat){N:Nm}{V:Vs}{h:List aj}{r p:PV}(hs:Hs V)(G:List PV)(hp:∀(i:Nat) v L,G[i]?=some v->bu (h++[⟨.lst,L⟩]) p (.int (i:Int))=some v):∀(os:List Op) (L:List PV) (k:Nat) (x4 x5 x6:Option PV),(∀o∈os,Bj V o)->L.length+os.length<=100->k+2*os.length<=100->(∃rest,G.drop k=iy V os++rest) ->
  ∃y3 y4 y5 y6,gj (dh 4) (az (run aM c)) (os.map (gX N)) ⟨[some r,some p,some (.ref h.length),some (.int (k:Int)),x4,x5,x6],h++[⟨.lst,L⟩]⟩=some (.ok .nx,⟨[some r,some p,some (.ref h.length),y3,y4,y5,y6],h++[⟨.lst,L++os.map (λo=>.int (opV V o))⟩]⟩)
 | [],L,k,x4,x5,x6,_,_,_,_=>⟨_,x4,x5,x6,by simp;rfl⟩
 | o::os,L,k,x4,x5,x6,ho,hl,hk,⟨rest,hG⟩=>by
  simp only[cq]at hl hk;have fl:(yS V o).length<=2:=by
   cases o with
   | num i=>simp[yS]
   | sp s =>
    cases s
    case i x=>cases x<;>simp[yS,E6,Jy]
    case j x=>cases x<;>simp[yS,E6,Jy]
    all_goals simp[yS,E6]
  obtain⟨z4,z5,z6,h1⟩:=L8 c (N:=N) (r:=r) (p:=p) (k:=k) (x4:=x4) (x5:=x5) (x6:=x6) (h:=h) (L:=L) hs (by lia) (by lia) (ho o du) (λi v hi=>hp (k+i) v L (by
   have:(G.drop k)[i]?=some v:=by
    rw[hG];show((yS V o++iy V os)++rest)[i]?=some v;rw[js,fB (dF.mp hi).1];exact hi
   rwa [List.getElem?_drop]at this))
  obtain⟨y3,y4,y5,y6,h2⟩:=C5 c (N:=N) (r:=r) (p:=p) hs G hp os (L++[.int (opV V o)]) (k+(yS V o).length) z4 z5 z6 (λq hq=>ho q (cG _ hq)) (by rw[bB];simp only[cq,m9];lia) (by lia) ⟨rest,by
   rw[<-List.drop_drop,hG];show((yS V o++iy V os)++rest).drop _=_;rw[js,List.drop_left]⟩
  refine⟨y3,y4,y5,y6,?_⟩;rw[js]at h2;show bnd (stp (dh 4 (gX N o))) (λ_=>bnd (az (run aM c)) (qI (gj (dh 4) (az (run aM c)) (os.map (gX N))))) _=_
  refine eB (show stp (dh 4 (gX N o)) _=some (.ok .nx,⟨[some r,some p,some (.ref h.length),some (.int (k:Int)),some (gX N o),x5,x6],h++[⟨.lst,L⟩]⟩)from rfl) (eB h1 ?_)
  have:qI (gj (dh 4) (az (run aM c)) (os.map (gX N))) (ctO o)=gj (dh 4) (az (run aM c)) (os.map (gX N)):=by cases o<;>rfl
  rw[this];exact h2
end bI
set_option maxHeartbeats 4000000
namespace bI
open PySem L2 L2.U
def jY(V:Vs)(r:Rw):List PV:=(bX r).map λo=>.int (opV V o)
structure wO (g:List aj) (p:PV) (G:List PV):Prop where
 Xp:∀(i:Nat) v L,G[i]?=some v->bu (g++L) p (.int (i:Int))=some v
theorem rL(r:Rw):(bX r).length<=2:=by cases r<;>simp[bX]
theorem Wz(c:Nat){N:Nm}{V:Vs}{g:List aj}{p:PV}{G:List PV}{r:Rw}(hs:Hs V)(hp:wO g p G)(ho:∀o∈bX r,Bj V o)(hG:∃rest,G=iy V (bX r)++rest) :
  run aM (c+3) "numbers_found" [bK N r,p] g=some (.ok (.ref g.length),g++[⟨.lst,jY V r⟩]):=by
 have l:=rL r;obtain⟨y3,y4,y5,y6,hl⟩:=C5 (c+2) (N:=N) (r:=bK N r) (p:=p) (h:=g) hs G (λi v L=>hp.Xp i v [⟨.lst,L⟩]) (bX r) [] 0 none none none ho (by simp;lia) (by lia) hG
 have e1:=Bm c (N:=N) r;have e2:ao [bK N r]=true:=by simp[ao,uq]
 rw[show(((0:Nat):Int))=0 from rfl,dG]at hl
 delta az gy at hl
 rw[mF];simp only[↓bM,e1,e2,hl,dG,bT,bQ];rfl
noncomputable def sx:Int:=1000000000000000000000000000000
def RC:Sg->Int->Int->Int
 | .add,x,y=>(x+y)%sx
 | .sub,x,y=>(x-y)%sx
 | .mul,x,y=>x*y%sx
def Bn(V:Vs):Rw->Int
 | .put _ o=>opV V o
 | .fill _ o=>opV V o
 | .set _ g o p=>RC g (opV V o) (opV V p)
 | _=>0
def Bd(x:Int):Prop:=0<=x/\x<sx
theorem IF{h:List aj}:Pr h (.int 10) (.int 30)=some (.int sx):=by kernel_rfl
theorem rM{h:List aj}{x:Int}:cE h (.int x) (.int sx)=some (.int (x%sx)):=by
 show(if decide (0<sx)=true then some (PV.int (x%sx))else none)=_
 rw[if_pos (by decide +kernel)]
theorem IG{x:Int}(h:Bd x):x.natAbs<Ju:=by
 have h1:=h.1;have h2:=h.2;unfold sx at h2;unfold Ju
 lia
theorem IH{h:List aj}{x y:Int}(hx:Bd x)(hy:Bd y):jO h (.int x) (.int y)=some (.int (x*y)):=if_pos (.inr ⟨IG hx,IG hy⟩)
theorem aay(c:Nat){N:Nm}{V:Vs}{g:List aj}{q:Nat}{G:List PV}{r:Rw}(hs:Hs V)(hp:wO g (.ref q) G)(ho:∀o∈bX r,Bj V o)(hb:∀o∈bX r,Bd (opV V o))(hG:∃rest,G=iy V (bX r)++rest)(hE:g.isEmpty=false)(hr:(∃s o,r=.put s o)\/(∃s o,r=.fill s o)\/∃s g o p,r=.set s g o p) :
  run aM (c+4) "number_put" [bK N r,.ref q] g=some (.ok (.int (Bn V r)),g++[⟨.lst,jY V r⟩]):=by
 have e1:=Wz c (N:=N) hs hp ho hG;have e2:ao [bK N r,.ref q]=false:=by simp[ao,noRef]
 have e3:=CU (h:=g++[⟨.lst,jY V r⟩]) N r;have e4:=λh=>IF (h:=h)
 have e5:=λh x=>rM (h:=h) (x:=x)
 have i0:∀v,(jY V r)[0]?=some v->bu (g++[⟨.lst,jY V r⟩]) (.ref g.length) (.int 0)=some v:=λv hv=>by
  have d:=ak (h:=g++[⟨.lst,jY V r⟩]) cX rfl;simp only[bu,d];exact atI_nat (j:=0) hv
 have i1:∀v,(jY V r)[1]?=some v->bu (g++[⟨.lst,jY V r⟩]) (.ref g.length) (.int 1)=some v:=λv hv=>by
  have d:=ak (h:=g++[⟨.lst,jY V r⟩]) cX rfl;simp only[bu,d];exact atI_nat (j:=1) hv
 rw[rk];rcases hr with⟨s,o,rfl⟩ | ⟨s,o,rfl⟩ | ⟨s,w,o,p,rfl⟩
 ·have j0:=i0 _ rfl;simp only[↓bM,e1,e2,e3,j0,hE,aW,aU];rfl
 ·have j0:=i0 _ rfl;simp only[↓bM,e1,e2,e3,j0,hE,aW,aU];rfl
 ·have j0:=i0 _ rfl;have j1:=i1 _ rfl;have b0:=hb o (by simp[bX])
  have b1:=hb p (by simp[bX])
  have e6:=λh=>IH (h:=h) b0 b1
  have e7:∀h,bu h (bK N (.set s w o p)) (.int 2)=some (.str (CP w)):=λh=>rfl
  cases w<;>(simp only[↓bM,e1,e2,e3,e4,e5,e6,e7,CP,j0,j1,hE,aW,aU];rfl)
end bI
set_option maxHeartbeats 2000000
namespace bI
open PySem L2 L2.U
noncomputable def NG(N:Nm):Sp->Nat
 | .c=>N.z
 | .i _=>N.z
 | _=>N.y
def SQ(N:Nm)(V:Vs)(x:Int):Sp->PV
 | .i i=>stP (V.c.set (iw V V.c.length i) x)
 | .j i=>stP (V.s.set (iw V V.s.length i) x)
 | .c=>stP (List.replicate N.z x)
 | .s=>stP (List.replicate N.y x)
 | _=>.int x
theorem L9(c:Nat){N:Nm}(K:bt N)(F:List Rw){s:Sp}(h:s=.c\/s=.s):run aM (c+7) "strip_of" [fdP N F,gm N s] []=some (.ok (.au [.str "strip",.int (NG N s:Int)]),[]):=by
 rw[wC];have e3:=wJ (c+5) K F s.x;have e4:=wK (c+4) N s.x;rcases h with rfl | rfl
 ·have e5:∀h,bu h (gm N .c) (.int 0)=some (.str (N.n .c)):=λh=>rfl
  have e3:run aM (c+5+1) "kind_of" [fdP N F,.str (N.n .c)] []=_:=e3;have e4:run aM (c+4+2) "shape_of" [kC N .c] []=_:=e4;simp only[↓bM,e3,e4,e5];rfl
 ·have e5:∀h,bu h (gm N .s) (.int 0)=some (.str (N.n .e)):=λh=>rfl
  have e3:run aM (c+5+1) "kind_of" [fdP N F,.str (N.n .e)] []=_:=e3;have e4:run aM (c+4+2) "shape_of" [kC N .e] []=_:=e4;simp only[↓bM,e3,e4,e5];rfl
theorem pq{h:List aj}{x:Int}{z:Nat}(z8:z<=8):jO h (.au [.int x]) (.int (z:Int))=some (stP (List.replicate z x)):=by
 show(if(0<=(z:Int)/\(z:Int)<=1000/\1<=[PV.int x].length/\[PV.int x].length<=100)then some (PV.au (List.replicate (z:Int).toNat [PV.int x]).flatten)else none)=_
 rw[if_pos ⟨by lia,by lia,by simp,by simp⟩,kH]
 unfold stP
 congr 2
 clear z8;induction z with
 | zero=>rfl
 | succ n ih=>rw[gC,kJ,ih];simp[gC]
theorem II(s:List Int)(q:Nat)(hq:q<=s.length):je (s.map .int) none (some (q:Int))=(s.take q).map .int:=by
 unfold je;rw[HT.xH,HT.oX,aT,uZ hq,vi];simp
theorem IJ(s:List Int)(q:Nat)(hq:q<=s.length):je (s.map .int) (some (q:Int)) none=(s.drop q).map .int:=by
 unfold je;rw[HT.xH,HT.oX,aT,uZ hq,vd];rw[zu (by simp)]
theorem wQ{h:List aj}{s:List Int}{q:Nat}{x:Int}(hq:q<s.length)(h8:s.length<=8) :
  (gK h (.au ((s.take q).map .int)) (.au [.int x]))=some (.au ((s.take q++[x]).map .int))/\gK h (.au ((s.take q++[x]).map .int)) (.au ((s.drop (q+1)).map .int))=some (stP (s.set q x)):=by
 constructor
 ·show L2.U.sizeOk (((s.take q).map PV.int).length+1) (.au ((s.take q).map PV.int++[.int x]))=_;unfold L2.U.sizeOk;rw[if_pos (aR (show _<=100 by simp;lia) (by decide))]
  simp
 ·show L2.U.sizeOk (((s.take q++[x]).map PV.int).length+((s.drop (q+1)).map PV.int).length) (.au ((s.take q++[x]).map PV.int++(s.drop (q+1)).map PV.int))=_;unfold L2.U.sizeOk;rw[if_pos (aR (show _<=100 by simp;lia) (by decide))]
  unfold stP;rw[<-eV,List.set_eq_take_append_cons_drop,if_pos hq,js];rfl
def RD(V:Vs):Sp->Prop
 | .i (.at i)=>i<V.c.length
 | .j (.at i)=>i<V.s.length
 | .c=>False
 | .s=>False
 | _=>True
structure Vz (N:Nm) (V:Vs):Prop where
 c:V.c.length=N.z
 s:V.s.length=N.y
theorem Vz.h{N:Nm}{V:Vs}(K:bt N)(z:Vz N V):Hs V:=⟨by rw[z.c];exact K.z1,by rw[z.s];exact K.y1⟩
theorem Vz.c8{N:Nm}{V:Vs}(K:bt N)(z:Vz N V):V.c.length<=8:=by rw[z.c];exact K.z8
theorem Vz.s8{N:Nm}{V:Vs}(K:bt N)(z:Vz N V):V.s.length<=8:=by rw[z.s];exact K.y8
theorem NH(c:Nat){N:Nm}{F:List Rw}{g g':List aj}{q:Nat}{r:Rw}{sp:PV}{L:List Int}{V:Vs}{x:Ix}{num:Int}{w:Str}(hw:w="put"\/w="set")(h1:1<=L.length)(h8:L.length<=8)
  (e1:run aM (c+7) "number_put" [bK N r,.ref q] g=some (.ok (.int num),g')) (e3:∀h,bu h (bK N r) (.int 0)=some (.str w)) (e5:∀h,bu h (bK N r) (.int 1)=some sp) (e6:∀h,bu h sp (.int 3)=some (yL N x))
  (hA:∀i,x=.at i->i<L.length) (hl:∀v,Jy V x=[v]->bu g' (.ref q) (.int (-1))=some v) (hE:g.isEmpty=false) :
  run aM (c+8) "written" [fdP N F,bK N r,.ref q,.lst [stP L]] g=some (.ok (.lst [stP (L.set (iw V L.length x) num)]),g'):=by
 have e2:ao [bK N r,.ref q]=false:=by simp[ao,noRef]
 have e8:∀h,bu h (.lst [stP L]) (.int 0)=some (stP L):=λh=>rfl
 have e9:=λh=>mI (L:=L) (h:=h)
 have hI:iw V L.length x<L.length:=by
  cases x with
  | «at» i=>exact hA i rfl
  | a=>exact mod_lt h1
  | b=>exact mod_lt h1
 have c1:∀h,DQ h none (some (iw V L.length x:Int)) (stP L)=some (.au ((L.take (iw V L.length x)).map .int)):=λh=>by
  show some (PV.au (je (L.map .int) none (some (iw V L.length x:Int))))=_;rw[II _ _ (by lia)]
 have c2:∀h,DQ h (some (((iw V L.length x+1:Nat):Int))) none (stP L)=some (.au ((L.drop (iw V L.length x+1)).map .int)):=λh=>by
  show some (PV.au (je (L.map .int) (some ((iw V L.length x+1:Nat):Int)) none))=_;rw[IJ _ _ (by lia)]
 have c3:=λh=>(wQ (h:=h) (x:=num) hI h8).1
 have c4:=λh=>(wQ (h:=h) (x:=num) hI h8).2
 have ad:∀h,gK h (.int (iw V L.length x:Int)) (.int 1)=some (.int ((iw V L.length x+1:Nat):Int)):=λh=>rfl
 rw[fZ];cases x with
 | «at» i =>
  have m1:∀h,cE h (yL N (.at i)) (.int (L.length:Int))=some (.int ((iw V L.length (.at i):Nat):Int)):=λh=>Bk (hA i rfl)
  rcases hw with rfl | rfl<;>(simp only[↓bM,e1,e2,e3,e5,e6,e8,e9,c1,c2,c3,c4,ad,m1,hE,aW,aU])
 | a =>
  have m1:∀h,cE h (.int V.a) (.int (L.length:Int))=some (.int ((iw V L.length .a:Nat):Int)):=λh=>iU h1
  have l1:bu g' (.ref q) (.int (-1))=some (.lst [.int V.a]):=hl _ rfl;rcases hw with rfl | rfl<;>(simp only[↓bM,e1,e2,e3,e5,e6,e8,e9,c1,c2,c3,c4,ad,m1,l1,hE,aW,aU])
 | b =>
  have m1:∀h,cE h (.int V.b) (.int (L.length:Int))=some (.int ((iw V L.length .b:Nat):Int)):=λh=>iU h1
  have l1:bu g' (.ref q) (.int (-1))=some (.lst [.int V.b]):=hl _ rfl;rcases hw with rfl | rfl<;>(simp only[↓bM,e1,e2,e3,e5,e6,e8,e9,c1,c2,c3,c4,ad,m1,l1,hE,aW,aU])
theorem wR(c:Nat){N:Nm}{F:List Rw}{g g':List aj}{q:Nat}{r:Rw}{sp u:PV}{num:Int}{w:Str}(hw:w="put"\/w="set")
  (e1:run aM (c+7) "number_put" [bK N r,.ref q] g=some (.ok (.int num),g')) (e3:∀h,bu h (bK N r) (.int 0)=some (.str w)) (e5:∀h,bu h (bK N r) (.int 1)=some sp) (e6:∀h,bu h sp (.int 3)=some .aL) (hE:g.isEmpty=false) :
  run aM (c+8) "written" [fdP N F,bK N r,.ref q,.lst [u]] g=some (.ok (.lst [.int num]),g'):=by
 have e2:ao [bK N r,.ref q]=false:=by simp[ao,noRef]
 rw[fZ];rcases hw with rfl | rfl<;>(simp only[↓bM,e1,e2,e3,e5,e6,hE,aW,aU])
theorem Ma(c:Nat){N:Nm}(K:bt N){F:List Rw}{g g':List aj}{q:Nat}{s:Sp}{o:Op}{u:PV}{num:Int}(hs:s=.c\/s=.s)
  (e1:run aM (c+7) "number_put" [bK N (.fill s o),.ref q] g=some (.ok (.int num),g')) (hE:g.isEmpty=false) (RE:g'.isEmpty=false) :
  run aM (c+8) "written" [fdP N F,bK N (.fill s o),.ref q,.lst [u]] g=some (.ok (.lst [stP (List.replicate (NG N s) num)]),g'):=by
 have e2:ao [bK N (.fill s o),.ref q]=false:=by simp[ao,noRef]
 have e3:∀h,bu h (bK N (.fill s o)) (.int 0)=some (.str "fill"):=λh=>rfl
 have e5:∀h,bu h (bK N (.fill s o)) (.int 1)=some (gm N s):=λh=>rfl
 have e6:=L9 c K F hs;have e7:=λh=>pq (h:=h) (x:=num) (z:=NG N s) (by rcases hs with rfl | rfl;exact K.z8;exact K.y8)
 have nr:ao [fdP N F,gm N s]=true:=by simp[ao,rE,Iq]
 rw[fZ];simp only[↓bM,e1,e2,e3,e5,e6,e7,hE,RE,nr,aW,aU,bT,bQ]
theorem Mb(c:Nat){N:Nm}{F:List Rw}{g:List aj}{q:Nat}{s t:Sp}{u v:PV}(h0:bu g (.ref q) (.int 0)=some v):run aM (c+8) "written" [fdP N F,bK N (.dR s t),.ref q,u] g=some (.ok v,g):=by
 have e3:∀h,bu h (bK N (.dR s t)) (.int 0)=some (.str "copy"):=λh=>rfl
 rw[fZ];simp only[↓bM,e3,h0]
theorem Mc(c:Nat){N:Nm}{F:List Rw}{g:List aj}{q:Nat}{x:N5}{u v:PV}(h0:bu g (.ref q) (.int 0)=some v):run aM (c+8) "written" [fdP N F,bK N (.fP x),.ref q,u] g=some (.ok v,g):=by
 have e3:∀h,bu h (bK N (.fP x)) (.int 0)=some (.str "move"):=λh=>rfl
 rw[fZ];simp only[↓bM,e3,h0]
end bI
set_option maxHeartbeats 4000000
namespace bI
open PySem L2 L2.U
noncomputable def newV(P:Pl)(W:List PV)(x:Nat×PV):PV:=match P,W with
 | y::P,w::W=>newV P W (x.1,if y.1=x.1 then w else x.2)
 | _,_=>x.2
def Md(H:List (Str×Nat×Pl))(P:Pl)(W:List PV):List (Str×Nat×Pl):=H.map λe=>(e.1,e.2.1,e.2.2.map λx=>(x.1,newV P W x))
theorem Me(H:List (Str×Nat×Pl))(P:Pl)(W:List PV):oP (Md H P W)=oP H:=by
 unfold oP Md;simp only[jw,pM]
theorem C6{x0 x1 x2 x3:Option PV}:∀(P:Pl) (W:List PV) (h:List aj) (x4 x5:Option PV),(∀x∈P,∃m t v,h[x.1]?=some (jj m t v))->P.length=W.length ->
  ∃h' y4 y5,gj Q0 (Lm eL eM "value" (rd 5) (rd 4)) (List.zipWith fW (P.map λx=>.ref x.1) W) ⟨[x0,x1,x2,x3,x4,x5],h⟩=some (.ok .nx,⟨[x0,x1,x2,x3,y4,y5],h'⟩)/\Ch h h' (P.map (·.1))/\∀n m t v,h[n]?=some (jj m t v)->h'[n]?=some (jj m t (newV P W (n,v)))
 | [],[],h,x4,x5,_,_=>⟨h,x4,x5,rfl,Ch.refl _ _,λn m t v e=>by unfold newV;exact e⟩
 | [],_::_,h,x4,x5,_,e=>by cases e
 | _::_,[],h,x4,x5,_,e=>by cases e
 | x::P,w::W,h,x4,x5,hp,e=>by
  obtain⟨m,t,v,e1⟩:=hp x (by simp)
  have st:∀n m' t' v',h[n]?=some (jj m' t' v')->(h.set x.1 (jj m t w))[n]?=some (jj m' t' (if x.1=n then w else v')):=λn m' t' v' e2=>by
   by_cases hx:x.1=n
   ·subst hx;rw[e1]at e2;cases e2;rw[if_pos rfl];exact cC e1
   ·rw[if_neg hx,bY hx];exact e2
  obtain⟨h',y4,y5,ih,c1,k1⟩:=C6 (x0:=x0) (x1:=x1) (x2:=x2) (x3:=x3) P W (h.set x.1 (jj m t w)) (some (.ref x.1)) (some w) (λz hz=>by
   obtain⟨m',t',u,e2⟩:=hp z (by simp[hz])
   exact⟨m',t',_,st _ _ _ _ e2⟩) (by simpa using e)
  refine⟨h',y4,y5,?_,?_,λn m' t' v' e2=>?_⟩
  ·have e2:=λρ=>CK (w:=w) (ρ:=ρ) e1
   refine aY ?_;simp only[aP,List.zipWith_cons_cons,fW];simp only[↓fA,e2,ih]
  ·refine Ch.tr ((Ch.set (jj m t w)).mono (B:=(x::P).map (·.1)) (by simp)) c1 ?_
   intro n hn _;simp only[aP,aG];exact .inr hn
  ·exact k1 _ _ _ _ (st n m' t' v' e2)
theorem Mf(c:Nat){h:List aj}{fi d k:Nat}{j r:Int}{H:List (Str×Nat×Pl)}{a:Ac}{W:List PV}(R:lH h fi d j r H)(ft:oQ H a)(hW:W.length=(aF H a).length) :
  ∃h',run aM (c+2) "Boxes.store" [.ref 0,.ref fi,cL k a,.lst W] h=some (.ok .aL,h')/\Ch h h' ((aF H a).map (·.1))/\lH h' fi d j r (Md H (aF H a) W):=by
 have e1:=Q9 c R ft (k:=k);have hE:=fx R.f;obtain⟨g,Q,t,i1,i2,i3⟩:=rA R ft;have hz:Qz (.lst (ly (aF H a))) (.lst W)=some (List.zipWith fW ((aF H a).map λx=>.ref x.1) W):=rfl
 obtain⟨h',y4,y5,hl,c1,k1⟩:=C6 (x0:=some (.ref 0)) (x1:=some (.ref fi)) (x2:=some (cL k a)) (x3:=some (.lst W)) (aF H a) W h none none (λx hx=>by obtain⟨m,hm⟩:=i3 x hx;exact⟨m,t,_,hm⟩) hW.symm
 have no:∀{n:Nat} {cc:aj},h[n]?=some cc->(∀m t v,cc≠jj m t v)->n∉(aF H a).map (·.1):=λ{n cc} e hc hm=>by
  obtain⟨x,hx,xi⟩:=bZ.mp hm;have xi:x.1=n:=xi;obtain⟨m,hm⟩:=i3 x hx;rw[xi,e]at hm;exact hc m t x.2 (aZ hm)
 refine⟨h',?_,c1,⟨c1.get R.f (no R.f λm t v z=>by cases z),?_,λe he=>?_,λe he=>?_⟩⟩
 ·rw[oJ];simp only[↓bM,e1,hE,ko,hz,hl,aW,aU]
 ·rw[Me];exact c1.get R.d (no R.d λm t v z=>by unfold oP at z;cases z)
 ·obtain⟨e0,Mg,rfl⟩:=bZ.mp he;obtain⟨t',a1,a2⟩:=R.p e0 Mg;refine⟨t',?_,λx hx=>?_⟩
  ·have:=c1.get a1 (no a1 λm t v z=>by cases z)
   rw[this];simp only[ly,jw,pM]
  ·obtain⟨x0,WA,rfl⟩:=bZ.mp hx;obtain⟨m,hm⟩:=a2 x0 WA;exact⟨m,k1 _ _ _ _ hm⟩
 ·obtain⟨e0,Mg,rfl⟩:=bZ.mp he;rw[aT];exact R.l e0 Mg
end bI
set_option maxHeartbeats 2000000
namespace bI
open PySem L2 L2.U
abbrev iV(h:List aj)(N:Nm)(n r:Nat)(A:Ra):Prop:=lH h (n+12) n 0 (r:Int) (Hn N n A)
noncomputable def gT(n:Nat)(A:Ra):N5->Pl
 | .a=>[(n+1,A.a)]
 | .b=>[(n+3,A.b)]
 | .c=>[(n+5,A.c)]
 | .d=>[(n+7,A.d)]
 | .e=>[(n+9,A.n),(n+10,A.s)]
noncomputable def RF(n:Nat):N5->Nat
 | .a=>n+2
 | .b=>n+4
 | .c=>n+6
 | .d=>n+8
 | .e=>n+11
def WB(n:Nat)(V:Vs)(x:N5):Pl:=gT n (ij V) x
noncomputable def E7(n:Nat):Sp->Nat
 | .a=>n+1
 | .b=>n+3
 | .c=>n+5
 | .i _=>n+5
 | .d=>n+7
 | .n=>n+9
 | _=>n+10
noncomputable def SR(A:Ra):Sp->PV
 | .a=>A.a
 | .b=>A.b
 | .c=>A.c
 | .i _=>A.c
 | .d=>A.d
 | .n=>A.n
 | _=>A.s
theorem RG{N:Nm}(K:bt N)(n:Nat)(A:Ra)(x:N5):(Hn N n A).lookup (N.n x)=some (RF n x,gT n A x):=by
 have h:∀y:N5,y≠x->(N.n x==N.n y)=false:=λy e=>K.b e.symm
 have ha:=h .a;have hb:=h .b;have hc:=h .c;have hd:=h .d;have q:(N.n x==N.n x)=true:=eU _;cases x
 case a=>simp only[Hn,dv,show(N.n .a==N.a)=true from q];rfl
 case b=>simp only[Hn,dv,show(N.n .b==N.a)=false from ha (by decide),show(N.n .b==N.b)=true from q];rfl
 case c=>simp only[Hn,dv,show(N.n .c==N.a)=false from ha (by decide),show(N.n .c==N.b)=false from hb (by decide),show(N.n .c==N.c)=true from q];rfl
 case d=>simp only[Hn,dv,show(N.n .d==N.a)=false from ha (by decide),show(N.n .d==N.b)=false from hb (by decide),show(N.n .d==N.c)=false from hc (by decide),show(N.n .d==N.d)=true from q];rfl
 case e=>simp only[Hn,dv,show(N.n .e==N.a)=false from ha (by decide),show(N.n .e==N.b)=false from hb (by decide),show(N.n .e==N.c)=false from hc (by decide),show(N.n .e==N.d)=false from hd (by decide),show(N.n .e==N.e)=true from q];rfl
def aaz(V:Vs):N5->List PV
 | .a=>[.int V.a]
 | .b=>[.int V.b]
 | .c=>[stP V.c]
 | .d=>[.int V.d]
 | .e=>[.int V.n,stP V.s]
theorem kh{N:Nm}(K:bt N)(n:Nat)(A:Ra)(x:N5)(wd t:Str):aF (Hn N n A) ⟨wd,N.n x,false,0,rF x,t⟩=gT n A x:=by
 rw[lA (RG K n A x)];cases x<;>rfl
theorem IK(n:Nat)(V:Vs)(x:N5):cS (WB n V x)=.lst (aaz V x):=by cases x<;>rfl
theorem rN{N:Nm}(K:bt N)(n:Nat)(A:Ra)(s:Sp)(wd t:Str):aF (Hn N n A) ⟨wd,N.n s.x,false,s.f,1,t⟩=[(E7 n s,SR A s)]:=by
 rw[lA (RG K n A s.x)];cases s<;>rfl
theorem Mh(V:Vs)(s:Sp):SR (ij V) s=sT V s:=by cases s<;>rfl
theorem wU{N:Nm}(K:bt N)(n:Nat)(V:Vs)(s:Sp)(wd t:Str):aF (Hn N n (ij V)) ⟨wd,N.n s.x,false,s.f,1,t⟩=[(E7 n s,sT V s)]:=by rw[rN K,Mh]
theorem hJ{N:Nm}(K:bt N)(n:Nat)(A:Ra)(x:N5)(wd t:Str):oQ (Hn N n A) ⟨wd,N.n x,false,0,rF x,t⟩:=⟨_,RG K n A x,by cases x<;>simp[gT,rF]⟩
theorem iW{N:Nm}(K:bt N)(n:Nat)(A:Ra)(s:Sp)(wd t:Str):oQ (Hn N n A) ⟨wd,N.n s.x,false,s.f,1,t⟩:=⟨_,RG K n A s.x,by cases s<;>simp[gT,Sp.x,Sp.f]⟩
def wV(N:Nm)(V:Vs)(x:Int):Sp->Vs
 | .a=>{V with a:=x}
 | .b=>{V with b:=x}
 | .d=>{V with d:=x}
 | .n=>{V with n:=x}
 | .c=>{V with c:=List.replicate N.z x}
 | .s=>{V with s:=List.replicate N.y x}
 | .i i=>{V with c:=V.c.set (iw V V.c.length i) x}
 | .j i=>{V with s:=V.s.set (iw V V.s.length i) x}
noncomputable def fj(A:Ra)(v:PV):Sp->Ra
 | .a=>{A with a:=v}
 | .b=>{A with b:=v}
 | .d=>{A with d:=v}
 | .n=>{A with n:=v}
 | .c=>{A with c:=v}
 | .i _=>{A with c:=v}
 | _=>{A with s:=v}
theorem yT(N:Nm)(n:Nat)(A:Ra)(s:Sp)(v u:PV):Md (Hn N n A) [(E7 n s,u)] [v]=Hn N n (fj A v s):=by
 cases s<;>simp[Md,Hn,newV,E7,fj]<;>lia
theorem mJ(N:Nm)(V:Vs)(s:Sp)(x:Int):fj (ij V) (SQ N V x s) s=ij (wV N V x s):=by cases s<;>rfl
end bI
set_option maxHeartbeats 4000000
namespace bI
open PySem L2 L2.U
theorem C7(c:Nat)(k:Nat)(a:Ac)(h:a.w="read"\/a.w="fill"\/a.w="turn"):run aM (c+1) "is_lending" [cL k a] []=some (.ok (.bl false),[]):=by
 obtain⟨w,x,t,f,m,tk⟩:=a;have h:w="read"\/w="fill"\/w="turn":=h;rcases h with rfl | rfl | rfl<;>kernel_rfl
theorem Wd.l1{h:List aj}{k:Nat}(w:Wd h k):∃es,h[1]?=some ⟨.lst,es⟩:=by
 obtain⟨nb,nt,es,_,h1,_⟩:=w;exact⟨es,h1⟩
theorem Wd.mt{h:List aj}{k:Nat}(w:Wd h k)(L:List (Str×(Str×Nat)))(m:Str)(hm:(["entries","boxes_made","tags_made"]:List Str).contains m=false):Em L m (.ref 0) h=L.lookup ("Boxes":Str):=by
 obtain⟨nb,nt,es,a0,_,_⟩:=w;exact iT a0 hm
theorem lH.ch{h h':List aj}{A:List Nat}{fi d:Nat}{j r:Int}{H:List (Str×Nat×Pl)}(F:lH h fi d j r H)(c:Ch h h' A)(hf:fi∉A)(hd:d∉A)(hp:∀e∈H,e.2.1∉A/\∀x∈e.2.2,x.1∉A):lH h' fi d j r H :=
 ⟨c.get F.f hf,c.get F.d hd,λe he=>(F.p e he).ch c (hp e he).1 (hp e he).2,F.l⟩
theorem lH.SS{h h':List aj}{fi d:Nat}{j r:Int}{H:List (Str×Nat×Pl)}(F:lH h fi d j r H)(w:∃es,h[1]?=some ⟨.lst,es⟩)(c:Ch h h' [1]):lH h' fi d j r H:=by
 obtain⟨es,h1⟩:=w;have no:∀{i:Nat} {cc:aj},h[i]?=some cc->(∀l,cc≠⟨.lst,l⟩)->i∉[1]:=λe n=>by
  rw[bh];exact dS e h1 (n _)
 refine F.ch c (no F.f λl z=>by cases z) (no F.d λl z=>by unfold oP at z;cases z) λe he=>?_
 obtain⟨t,a1,a2⟩:=F.p e he;refine⟨no a1 (λl z=>by cases z),λx hx=>?_⟩
 obtain⟨m,hm⟩:=a2 x hx;exact no hm λl z=>by cases z
theorem lH.app{h:List aj}(g:List aj){fi d:Nat}{j r:Int}{H:List (Str×Nat×Pl)}(F:lH h fi d j r H):lH (h++g) fi d j r H:=F.ch (Ch.app h g []) (by simp) (by simp) λe he=>⟨by simp,λx hx=>by simp⟩
def E8(H:List (Str×Nat×Pl))(a:Ac):Prop:=oQ H a/\a.w="read"/\a.m<=2/\∀x∈aF H a,ej x.2=false
theorem RH(c:Nat){N:Nm}{F:List Rw}{fs:List PV}{bW:Int}{bE:List Int}{h:List aj}{fi d k q n:Nat}{j r:Int}{H:List (Str×Nat×Pl)}{a:Ac}{row:PV}
  (hR:cF h 2 N F 0 3 4 5 fs bW bE) (hF:lH h fi d j r H) (ha:E8 H a) (W:Wd h (n+2)) :
  ∃h',run aM (c+7) "do_act" [.ref 2,.ref fi,row,cL k a,.ref q] h=some (.ok (cS (aF H a)),h')/\Ch h h' [1]/\Wd h' n:=by
 obtain⟨ft,hw,hm,hv⟩:=ha;obtain⟨h',e2,c2,w2⟩:=CO c (k:=k) hF ft (.inl hw) hm (λ_=>hv) W
 have e1:=C7 (c+5) k a (.inl hw);have e3:=ak hR.r rfl;have e4:=λL=>W.mt L "touch" (by kernel_rfl)
 have e5:∀h,bu h (cL k a) (.int 1)=some (.str "read"):=λh=>by rw[uo,hw]
 have hE:=fx hF.f;have RE:=fx (hF.SS W.l1 c2).f;have nr:ao [cL k a]=true:=by simp[ao,nZ]
 refine⟨h',?_,c2,w2⟩;rw[lu];simp only[↓bM,e1,e2,e3,e4,e5,hE,RE,nr,nZ,aW,aU,bT,bQ]
theorem lC(c:Nat){N:Nm}{F:List Rw}{fs:List PV}{bW:Int}{bE:List Int}{h:List aj}{fi d k:Nat}{j r:Int}{H:List (Str×Nat×Pl)}{row so:PV}
  (hR:cF h 2 N F 0 3 4 5 fs bW bE) (hF:lH h fi d j r H) (hW:∃es,h[1]?=some ⟨.lst,es⟩):∀(A:List Ac) (L:List PV) (g:List aj) (x5:Option PV) (n:Nat),Ch h g [1]->g[h.length]?=some ⟨.lst,L⟩->Wd g (n+2*A.length)->(∀a∈A,E8 H a)->L.length+A.length<=1000 ->
  ∃g' y5,(∀rest,gj (dh 5) (cR (run aM (c+7))) (A.map (cL k)++rest) ⟨[some (.ref 2),some (.ref fi),some row,some so,some (.ref h.length),x5],g⟩=gj (dh 5) (cR (run aM (c+7))) rest ⟨[some (.ref 2),some (.ref fi),some row,some so,some (.ref h.length),y5],g'⟩)/\Ch h g' [1]/\g'[h.length]?=some ⟨.lst,L++A.map λa=>cS (aF H a)⟩/\Wd g' n
 | [],L,g,x5,n,hc,hg,W,_,_=>⟨g,x5,λrest=>by simp,hc,by simpa using hg,W⟩
 | a::A,L,g,x5,n,hc,hg,W,ha,hl=>by
  simp only[cq]at hl W;have h5:5<h.length:=d8 hR.sd;have gR:=hR.ch hc (by simp)
  have gF:=hF.SS hW hc;obtain⟨g1,e1,c1,w1⟩:=RH c (k:=k) (q:=h.length) (row:=row) gR gF (ha a du) (n:=n+2*A.length) (W.mono (by lia))
  have q1:=c1.get hg (by simp;lia)
  have a1:=λρ v=>fg (ρ:=ρ) (v:=v) q1 (by lia)
  have d1:=ak q1 rfl;have d0:=ak hg rfl;have hE:=fx hg;have oR:=fx q1;have nr:∀l,ao (.ref 2::l)=false:=ko 2
  obtain⟨g2,xb⟩:∃g2,g2=g1.set h.length ⟨.lst,L++[cS (aF H a)]⟩:=⟨_,rfl⟩
  have b1:cR (run aM (c+7)) ⟨[some (.ref 2),some (.ref fi),some row,some so,some (.ref h.length),some (cL k a)],g⟩=some (.ok .nx,⟨[some (.ref 2),some (.ref fi),some row,some so,some (.ref h.length),some (cL k a)],g2⟩):=by
   rw[xb];refine aY ?_
   delta cR gy
   simp only[↓fA,e1,a1,d1,d0,hE,oR,nr,aW,aU]
  have u2:Ch g1 g2 [h.length]:=by rw[xb];exact Ch.set _
  have c2:Ch h g2 [1]:=(hc.tr c1 (λ_ h _=>h)).tr u2 (λm hm hl=>by rw[bh]at hm;lia)
  obtain⟨g',y5,ih,i1,i2,i3⟩:=lC c (k:=k) (row:=row) (so:=so) hR hF hW A (L++[cS (aF H a)]) g2 (some (cL k a)) n c2 (by rw[xb];exact cC q1) (w1.ch u2 (by simp;lia)) (λb hb=>ha b (cG _ hb)) (by rw[bB];simp only[cq,m9];lia)
  refine⟨g',y5,λrest=>?_,i1,by rw[i2];simp,i3⟩
  rw[aP,kL,<-ih rest];exact fC (s1:=⟨[some (.ref 2),some (.ref fi),some row,some so,some (.ref h.length),some (cL k a)],_⟩) rfl b1 rfl
theorem Mi(c:Nat){N:Nm}{F:List Rw}{fs:List PV}{bW:Int}{bE:List Int}{h:List aj}{fi d k n:Nat}{j r:Int}{H:List (Str×Nat×Pl)}{row:PV}
  (hR:cF h 2 N F 0 3 4 5 fs bW bE) (hF:lH h fi d j r H) (A:List Ac) (ha:∀a∈A,E8 H a) (hl:A.length<=100) (W:Wd h (n+2*A.length)) :
  ∃h',run aM (c+8) "do_acts" [.ref 2,.ref fi,row,.lst (A.map (cL k))] h=some (.ok (.lst (A.map λa=>cS (aF H a))),h')/\Ch h h' [1]/\Wd h' n:=by
 have h5:5<h.length:=d8 hR.sd;obtain⟨g,y5,e1,c1,q1,w1⟩:=lC c (k:=k) (row:=row) (so:=.lst (A.map (cL k))) hR hF W.l1 A [] (h++[⟨.lst,[]⟩]) none n (Ch.app _ _ _) cX (W.ch (Ch.app h _ []) (by simp)) ha (by simp;lia)
 have e1:=e1 [];rw[c6]at e1;rw[dG]at q1;have e1:gj (dh 5) (cR (run aM (c+7))) (A.map (cL k)) ⟨[some (.ref 2),some (.ref fi),some row,some (.lst (A.map (cL k))),some (.ref h.length),none],h++[⟨.lst,[]⟩]⟩=some (.ok .nx,⟨[some (.ref 2),some (.ref fi),some row,some (.lst (A.map (cL k))),some (.ref h.length),y5],g⟩):=e1;have e3:=dy q1 rfl
 revert e1
 delta cR gy
 intro e1;refine⟨g.set h.length oF,?_,c1.tr (Ch.set _) (λm hm hl=>by rw[bh]at hm;lia),w1.ch (Ch.set _) (by simp;lia)⟩
 rw[jT];simp only[↓bM,e1,e3]
end bI
set_option maxHeartbeats 4000000
namespace bI
open PySem L2 L2.U
theorem Mj(c:Nat){g:List aj}{fi d q k n:Nat}{j r m t:Int}{a:Ac}{L:List PV}{x:Nat×PV}(W:Wd g (n+1))(hf:g[fi]?=some (pf j d r))(hq:g[q]?=some ⟨.lst,L⟩)(hx:g[x.1]?=some (jj m t x.2))(q1:q≠1)(hw:a.w="empty")(hv:ej x.2=false)(hL:L.length<=4000){x7:Option PV} :
  ∃g',aK (run aM (c+4)) ⟨[some (.ref 0),some (.ref fi),some (cL k a),some (.int (-1)),some (.ref q),some (.int t),some (.ref x.1),x7],g⟩=some (.ok .nx,⟨[some (.ref 0),some (.ref fi),some (cL k a),some (.int (-1)),some (.ref q),some (.int t),some (.ref x.1),some (et t)],g'⟩)/\Ch g g' [1,q,x.1]/\Wd g' n/\g'[q]?=some ⟨.lst,L++[x.2]⟩/\g'[x.1]?=some (jj m t .aL):=by
 have⟨nb,nt,_,h0,_,_⟩:=W;obtain⟨es,h1,hl,W1⟩:=Wd.add (v:=.au [.int j,.int r,.str "write",.int m,.int t,.int (-1)]) W;have ap:=λρ v=>fg (ρ:=ρ) (v:=v) h1 hl
 have x1:x.1≠1:=dS hx h1 (by intro z;cases z)
 have xq:x.1≠q:=dS hx hq (by intro z;cases z)
 have x0:0≠x.1:=dS h0 hx (by intro z;cases z)
 obtain⟨g1,n8⟩:∃g1,g1=g.set 1 ⟨.lst,es++[.au [.int j,.int r,.str "write",.int m,.int t,.int (-1)]]⟩:=⟨_,rfl⟩
 rw[<-n8]at W1;have c1:Ch g g1 [1]:=by rw[n8];exact Ch.set _
 have bx:=c1.get hx (by simp;exact x1)
 have qx:=c1.get hq (by simp;exact q1)
 obtain⟨g2,xb⟩:∃g2,g2=g1.set q ⟨.lst,L++[x.2]⟩:=⟨_,rfl⟩
 have c2:Ch g1 g2 [q]:=by rw[xb];exact Ch.set _
 have bx2:=c2.get bx (by simp;exact xq)
 have q2:g2[q]?=some ⟨.lst,L++[x.2]⟩:=by rw[xb];exact cC qx
 have W2:Wd g2 n:=W1.ch c2 ⟨by simp;exact(dS h0 hq (by intro z;cases z)),by simp;exact bU q1⟩
 have d0:=ak h0 rfl;have d1:=ak h1 rfl;have df:=ak hf rfl;have db:=ak hx rfl;have Rc:=ak bx rfl;have Wj:=ak qx rfl;have pp:=λρ=>yH (ρ:=ρ) bx
 have pv:=λρ=>CK (ρ:=ρ) (w:=.aL) bx2
 have aq:∀ρ,fu (dN fw) (.ref q) [x.2] ⟨ρ,g1⟩=some (.ok .aL,⟨ρ,g2⟩):=λρ=>by rw[xb];exact fg qx (by lia)
 have pw:=Bh (c+1) t (-1) (w:="write") (.inr rfl);have Wk:∀w:Str,ao [et t,.str w,.int t,.int (-1)]=true:=λ_=>rfl
 have Wl:ao [cL k a]=true:=by simp[ao,nZ]
 have as:run aM (c+4) "asks_for_full" [cL k a] []=some (.ok (.bl true),[]):=by
  obtain⟨w,x,t,f,m,tk⟩:=a;have hw:w="empty":=hw;subst hw;kernel_rfl
 have iso:∀h,Sy h x.2 .aL=some (.bl (ej x.2)):=λh=>rfl
 have hE:=fx hx;have oR:=fx bx;have e1:∀h,bu h (cL k a) (.int 1)=some (.str "empty"):=λ_=>by rw[uo,hw]
 have ap:∀ρ,fu (dN fw) (.ref 1) [.au [.int j,.int r,.str "write",.int m,.int t,.int (-1)]] ⟨ρ,g⟩=some (.ok .aL,⟨ρ,g1⟩):=λρ=>by rw[n8];exact ap ρ _
 refine⟨g2.set x.1 (jj m t .aL),?_,?_,W2.ch (Ch.set _) ⟨by simp;exact x0,by simp;exact bU x1⟩,by rw[bY xq];exact q2,cC bx2⟩
 ·refine aY ?_
  delta aK gy
  simp only[↓fA,d0,d1,df,db,Rc,Wj,e1,ap,pw,Wk,Wl,as,iso,hv,pp,aq,pv,hE,oR,bT,bQ]
 ·exact((c1.mono (by simp)).tr (c2.mono (B:=[1,q,x.1]) (by simp)) (λ_ h _=>h)).tr (Ch.set _) (by simp)
theorem C8(c:Nat){fi d q k:Nat}{j r t:Int}{a:Ac}(q1:q≠1)(hw:a.w="empty"):∀(P:Pl) (g:List aj) (n:Nat) (L:List PV) (x6 x7:Option PV),(P.map (·.1)).Nodup->Wd g (n+P.length)->g[fi]?=some (pf j d r)->g[q]?=some ⟨.lst,L⟩->(∀x∈P,∃m,g[x.1]?=some (jj m t x.2))->(∀x∈P,ej x.2=false)->L.length+P.length<=4000 ->
  ∃g' y6 y7,gj (dh 6) (aK (run aM (c+4))) (ly P) ⟨[some (.ref 0),some (.ref fi),some (cL k a),some (.int (-1)),some (.ref q),some (.int t),x6,x7],g⟩=some (.ok .nx,⟨[some (.ref 0),some (.ref fi),some (cL k a),some (.int (-1)),some (.ref q),some (.int t),y6,y7],g'⟩)/\Ch g g' ([1,q]++P.map (·.1))/\Wd g' n/\g'[q]?=some ⟨.lst,L++P.map (·.2)⟩/\∀x∈P,∃m,g'[x.1]?=some (jj m t .aL)
 | [],g,n,L,x6,x7,_,W,hf,hq,hx,hv,hl=>⟨g,x6,x7,rfl,Ch.refl _ _,W,by rw[dZ,c6];exact hq,λx h=>by cases h⟩
 | x::P,g,n,L,x6,x7,nd,W,hf,hq,hx,hv,hl=>by
  rw[cq]at hl W;rw[aP,kP]at nd;obtain⟨m,hm⟩:=hx x (by simp)
  obtain⟨g1,e1,c1,w1,u1,b1⟩:=Mj c (k:=k) (x7:=x7) (n:=n+P.length) (W.mono (by lia)) hf hq hm q1 hw (hv x (by simp)) (by lia)
  obtain⟨es,h1,_,_⟩:=Wd.add (v:=.aL) (W.mono (k':=0+1) (by lia))
  have n1:∀{i:Nat} {cc:aj},g[i]?=some cc->(∀l,cc≠⟨.lst,l⟩)->i≠x.1->i∉[1,q,x.1]:=λe n z=>by
   simp only[aG,bG,bH,not_or];exact⟨dS e h1 (n _),dS e hq (n _),z⟩
  obtain⟨g2,y6,y7,e2,c2,w2,u2,b2⟩:=C8 c (k:=k) (t:=t) q1 hw P g1 n (L++[x.2]) (some (.ref x.1)) (some (et t)) nd.2 w1 (c1.get hf (n1 hf (by intro l z;cases z) (dS hf hm (by intro z;cases z)))) u1 (λy hy=>by
   obtain⟨m',K4⟩:=hx y (by simp[hy])
   exact⟨m',c1.get K4 (n1 K4 (by intro l z;cases z) λz=>nd.1 (by rw[<-z];exact uR hy))⟩) (λy hy=>hv y (by simp[hy])) (by simp;lia)
  refine⟨g2,y6,y7,?_,?_,w2,by rw[u2];simp,λy hy=>?_⟩
  ·exact fC (s1:=⟨[some (.ref 0),some (.ref fi),some (cL k a),some (.int (-1)),some (.ref q),some (.int t),some (.ref x.1),x7],g⟩) rfl e1 e2
  ·exact(c1.mono (B:=[1,q]++(x::P).map (·.1)) (by simp)).tr (c2.mono (B:=[1,q]++(x::P).map (·.1)) (by intro z hz;simp only[cH,aP,aG]at hz ⊢;rcases hz with hz | hz;exact .inl hz;exact .inr (.inr hz))) (λ_ h _=>h)
  ·rcases aG.mp hy with rfl | hy
   ·refine⟨m,c2.get b1 λz=>?_⟩
    rcases cH.mp z with z | z
    ·simp only[aG,bG,bH]at z;rcases z with z | z
     ·exact dS hm h1 (by intro z;cases z) z
     ·exact dS hm hq (by intro z;cases z) z
    ·exact nd.1 z
   ·exact b2 y hy
end bI
set_option maxHeartbeats 4000000
namespace bI
open PySem L2 L2.U
noncomputable def WC(H:List (Str×Nat×Pl))(P:Pl):List (Str×Nat×Pl):=H.map λe=>(e.1,e.2.1,e.2.2.map λx=>(x.1,if x.1∈P.map (·.1)then .aL else x.2))
theorem WD{m t m' t':Int}{v v':PV}(e:jj m t v=jj m' t' v'):t=t':=by
 simp[jj,et]at e;exact e.2.1
theorem Ml(H:List (Str×Nat×Pl))(P:Pl):oP (WC H P)=oP H:=by
 unfold oP WC;simp only[jw,pM]
theorem Mm(c:Nat){h:List aj}{fi d k n:Nat}{j r:Int}{H:List (Str×Nat×Pl)}{a:Ac}(R:lH h fi d j r H)(ft:oQ H a)(hw:a.w="empty")(hm:a.m<=2)(nd:((aF H a).map (·.1)).Nodup)(hv:∀x∈aF H a,ej x.2=false)(W:Wd h (n+2)) :
  ∃h',run aM (c+6) "Boxes.touch" [.ref 0,.ref fi,cL k a] h=some (.ok (cS (aF H a)),h')/\Ch h h' (1::(aF H a).map (·.1))/\Wd h' n/\lH h' fi d j r (WC H (aF H a)):=by
 have e1:=Ip (c+4) R ft (k:=k);have⟨nb,nt,es,h0,h1,_⟩:=W;have pm:(aF H a).length<=2:=by
  obtain⟨P,l,_⟩:=ft;rw[lA l,kM]
  lia
 obtain⟨g,Q,t,i1,i2,i3⟩:=rA R ft;have qQ:(h++[(⟨.lst,[]⟩:aj)])[h.length]?=some ⟨.lst,[]⟩:=cX;have l1:=d8 h1;have q1:h.length≠1:=by lia
 obtain⟨h2,y6,y7,e3,c3,w3,u3,b3⟩:=C8 c (k:=k) (j:=j) (r:=r) (d:=d) (fi:=fi) (t:=t) (q:=h.length) q1 hw (aF H a) (h++[⟨.lst,[]⟩]) n [] none none nd ((W.ch (Ch.app h [⟨.lst,[]⟩] []) (by simp)).mono (by lia)) (bJ R.f) qQ (λx hx=>by
  obtain⟨m,hm⟩:=i3 x hx;exact⟨m,bJ hm⟩) hv (by simp;lia)
 have i1':bu (h++[⟨.lst,[]⟩]) (.ref d) (.str a.x)=some (.ref g):=by
  obtain⟨P,l,_⟩:=ft;have e:=lz R.d l;rw[i1]at e;cases e;exact lz (bJ R.d) l
 have d1:=ak (bJ (g:=[⟨.lst,[]⟩]) R.f) rfl;have d2:=ak (bJ (g:=[⟨.lst,[]⟩]) i2) rfl;have RA:lH (h++[⟨.lst,[]⟩]) fi d j r H:=⟨bJ R.f,bJ R.d,λe he=>by
  obtain⟨t,a1,a2⟩:=R.p e he;exact⟨t,bJ a1,λx hx=>by obtain⟨m,hm⟩:=a2 x hx;exact⟨m,bJ hm⟩⟩,R.l⟩
 have e4:=Q9 (c+3) RA ft (k:=k);have hE:=fx h0;have oR:=fx (bJ (g:=[⟨.lst,[]⟩]) h0);have nr:∀i l,ao (.ref i::l)=false:=λi l=>ko i l
 have ce:=dy u3 rfl;rw[dG]at ce;have e5:run aM (c+5) "Boxes.touch_boxes" [.ref 0,.ref fi,cL k a,.int (-1)] h=some (.ok (cS (aF H a)),h2.set h.length oF):=by
  revert e3
  delta aK gy
  intro e3;rw[fz];simp only[↓bM,d1,d2,i1',e4,e3,ce,CM,oR,nr,aW,aU];rfl
 have mt:=λL=>iT (L:=L) (m:="touch_boxes") h0 (by kernel_rfl)
 have c4:Ch h (h2.set h.length oF) (1::(aF H a).map (·.1)):=by
  have a1:Ch h (h++[⟨.lst,[]⟩]) (1::(aF H a).map (·.1)):=Ch.app _ _ _;refine(a1.tr c3 (λn hn hl=>?_)).tr (Ch.set _) (λn hn hl=>by simp at hn;lia)
  rcases cH.mp hn with hn | hn
  ·simp only[aG,bG,bH]at hn;rcases hn with hn | hn
   ·rw[hn];exact du
   ·lia
  ·exact cG _ hn
 have no:∀{n:Nat} {cc:aj},h[n]?=some cc->(∀l,cc≠⟨.lst,l⟩)->n∉(aF H a).map (·.1)->n∉1::(aF H a).map (·.1):=λ{n cc} e hc hm z=>by
  rcases aG.mp z with z | z
  ·exact dS e h1 (hc _) z
  ·exact hm z
 have nb:∀{n:Nat} {cc:aj},h[n]?=some cc->(∀m t v,cc≠jj m t v)->n∉(aF H a).map (·.1):=λ{n cc} e hc hm=>by
  obtain⟨x,hx,xi⟩:=bZ.mp hm;have xi:x.1=n:=xi;obtain⟨m,hm⟩:=i3 x hx;rw[xi,e]at hm;exact hc m t x.2 (aZ hm)
 have nt':h.length∉(aF H a).map (·.1):=λz=>by
  obtain⟨x,hx,xi⟩:=bZ.mp z;obtain⟨m,hm⟩:=i3 x hx;have:=d8 hm;have xi:x.1=h.length:=xi
  lia
 refine⟨h2.set h.length oF,?_,c4,w3.ch (Ch.set _) (by simp;lia),⟨c4.get R.f (no R.f (λl z=>by cases z) (nb R.f λm t v z=>by cases z)),?_,λe he=>?_,λe he=>?_⟩⟩
 ·rw[jc];simp only[↓bM,e1,e5,mt,hE,nr,aW,aU]
 ·rw[Ml];exact c4.get R.d (no R.d (λl z=>by unfold oP at z;cases z) (nb R.d λm t v z=>by unfold oP at z;cases z))
 ·obtain⟨e0,Mg,rfl⟩:=bZ.mp he;obtain⟨t',a1,a2⟩:=R.p e0 Mg;refine⟨t',?_,λx hx=>?_⟩
  ·have:=c4.get a1 (no a1 (λl z=>by cases z) (nb a1 λm t v z=>by cases z))
   rw[this];simp only[ly,jw,pM]
  ·obtain⟨x0,WA,rfl⟩:=bZ.mp hx;obtain⟨m,hm⟩:=a2 x0 WA;by_cases AN:x0.1∈(aF H a).map (·.1)
   ·obtain⟨y,hy,XO⟩:=bZ.mp AN;have XO:y.1=x0.1:=XO;obtain⟨m2,Xu⟩:=i3 y hy;obtain⟨m3,hm3⟩:=b3 y hy;rw[XO,hm]at Xu;have ht:=WD (aZ Xu);subst ht;rw[XO]at hm3;have:=d8 hm;exact⟨m3,by simp only[AN,eI];rw[bY (by lia)];exact hm3⟩
   ·refine⟨m,?_⟩;simp only[AN,cK];exact c4.get hm (no hm (λl z=>by cases z) AN)
 ·obtain⟨e0,Mg,rfl⟩:=bZ.mp he;rw[aT];exact R.l e0 Mg
end bI
set_option maxHeartbeats 4000000
namespace bI
open PySem L2 L2.U
def WE(N:Nm):Sp->Ac
 | .i x=>uu N "turn" (.i x)
 | .j x=>uu N "turn" (.j x)
 | s=>uu N "fill" s
theorem RI(N:Nm)(s:Sp):∃wd,(wd="fill"\/wd="turn")/\WE N s=⟨wd,N.n s.x,false,s.f,1,""⟩:=by
 cases s
 case i x=>exact⟨"turn",.inr rfl,rfl⟩
 case j x=>exact⟨"turn",.inr rfl,rfl⟩
 all_goals exact⟨"fill",.inl rfl,rfl⟩
def iz(N:Nm):List Op->List Ac
 | []=>[]
 | o::os=>oS N o++iz N os
noncomputable def xj:Rw->Option Sp
 | .put s _=>some s
 | .fill s _=>some s
 | .set s _ _ _=>some s
 | _=>none
theorem WG(N:Nm)(s:Sp):EE N s=sv N s++[WE N s]:=by cases s<;>rfl
theorem RJ(N:Nm){r:Rw}{s:Sp}(h:xj r=some s):b7 N r=(iz N (bX r)++sv N s)++[WE N s]:=by
 cases r<;>cases h<;>simp[b7,iz,bX,WG]
theorem Mn(x:N5):rF x<=2:=by cases x<;>decide
theorem RK(n:Nat)(V:Vs)(x:N5):∀y∈WB n V x,ej y.2=false:=by
 cases x<;>simp[WB,gT,ij,ej,stP]
theorem rO{N:Nm}(K:bt N)(n:Nat)(V:Vs)(a:Ac):∀y∈aF (Hn N n (ij V)) a,ej y.2=false:=by
 intro y hy;unfold aF at hy;have hy:=uP (uO hy);cases hl:(Hn N n (ij V)).lookup a.x with
 | none=>rw[hl]at hy;cases hy
 | some P =>
  rw[hl]at hy;have hm:=nP hl;have hy:y∈P.2:=hy;unfold Hn at hm;simp at hm;rcases hm with⟨_,rfl⟩ | ⟨_,rfl⟩ | ⟨_,rfl⟩ | ⟨_,rfl⟩ | ⟨_,rfl⟩<;>simp at hy<;>(first | (rcases hy with rfl | rfl<;>rfl) | (subst hy;rfl))
theorem IL{N:Nm}(K:bt N)(n:Nat)(V:Vs)(s:Sp):(sv N s).map (λa=>cS (aF (Hn N n (ij V)) a))=E6 V s:=by
 have e:∀x,(NF N x).map (λa=>cS (aF (Hn N n (ij V)) a))=Jy V x:=λx=>by
  cases x
  case «at» i=>rfl
  case a=>show [cS (aF (Hn N n (ij V)) (NC N .a))]=_;rw[show aF (Hn N n (ij V)) (NC N .a)=WB n V .a from kh K n (ij V) .a "read" "",IK];rfl
  case b=>show [cS (aF (Hn N n (ij V)) (NC N .b))]=_;rw[show aF (Hn N n (ij V)) (NC N .b)=WB n V .b from kh K n (ij V) .b "read" "",IK];rfl
 cases s
 case i x=>exact e x
 case j x=>exact e x
 all_goals rfl
theorem RL{N:Nm}(K:bt N)(n:Nat)(V:Vs)(o:Op):(oS N o).map (λa=>cS (aF (Hn N n (ij V)) a))=yS V o:=by
 cases o with
 | num i=>rfl
 | sp s =>
  show(sv N s++[uu N "read" s]).map _=_;rw[eV,IL K];show _++[cS (aF (Hn N n (ij V)) ⟨"read",N.n s.x,false,s.f,1,""⟩)]=_;rw[wU K];rfl
theorem wW{N:Nm}(K:bt N)(n:Nat)(V:Vs):∀os:List Op,(iz N os).map (λa=>cS (aF (Hn N n (ij V)) a))=iy V os
 | []=>rfl
 | o::os=>by
  show(oS N o++iz N os).map _=yS V o++iy V os;rw[eV,RL K,wW K n V os]
theorem NI{N:Nm}(K:bt N)(n:Nat)(V:Vs)(s:Sp):∀a∈sv N s,E8 (Hn N n (ij V)) a:=by
 have e:∀x,∀a∈NF N x,E8 (Hn N n (ij V)) a:=λx a h=>by
  cases x
  case «at» i=>cases h
  case a=>rw[bh.mp h];exact⟨hJ K n _ .a "read" "",rfl,Mn .a,rO K n V _⟩
  case b=>rw[bh.mp h];exact⟨hJ K n _ .b "read" "",rfl,Mn .b,rO K n V _⟩
 intro a h;cases s
 case i x=>exact e x a h
 case j x=>exact e x a h
 all_goals cases h
theorem NJ{N:Nm}(K:bt N)(n:Nat)(V:Vs)(s:Sp):E8 (Hn N n (ij V)) (uu N "read" s):=⟨iW K n _ s "read" "",rfl,(show 1<=2 by decide),rO K n V _⟩
theorem WH{N:Nm}(K:bt N)(n:Nat)(V:Vs)(o:Op):∀a∈oS N o,E8 (Hn N n (ij V)) a:=by
 intro a h;cases o with
 | num i=>cases h
 | sp s =>
  rcases cH.mp h with h | h
  ·exact NI K n V s a h
  ·rw[bh.mp h];exact NJ K n V s
theorem Bo{N:Nm}(K:bt N)(n:Nat)(V:Vs):∀os:List Op,∀a∈iz N os,E8 (Hn N n (ij V)) a
 | [],a,h=>by cases h
 | o::os,a,h=>by
  rcases cH.mp h with h | h
  ·exact WH K n V o a h
  ·exact Bo K n V os a h
theorem rP(N:Nm):∀os:List Op,(iz N os).length<=2*os.length
 | []=>by simp[iz]
 | o::os=>by
  have:=dz N o;have:=rP N os;simp only[iz,bB,cq]
  lia
theorem yU{α:Type}{xs:List α}{v:α}(h:xs.getLast?=some v):L2.sh xs (-1)=some v:=by
 have hp:0<xs.length:=by cases xs with | nil=>cases h | cons=>simp
 unfold L2.sh L2.DI;rw[if_neg (by lia),if_pos (by lia),jt,show((-1:Int)+xs.length).toNat=xs.length-1 by lia,<-List.getLast?_eq_getElem?]
 exact h
theorem nQ{N:Nm}{n:Nat}{A:Ra}:∀e∈Hn N n A,(n<e.2.1/\e.2.1<n+12)/\∀x∈e.2.2,n<x.1/\x.1<n+12:=by
 intro e he;unfold Hn at he;simp at he;rcases he with rfl | rfl | rfl | rfl | rfl<;>simp
theorem iV.lt{h:List aj}{N:Nm}{n r:Nat}{A:Ra}(F:iV h N n r A):n+12<h.length:=d8 F.f
theorem iV.ch{h h':List aj}{B:List Nat}{N:Nm}{n r:Nat}{A:Ra}(F:iV h N n r A)(c:Ch h h' B)(hA:∀a∈B,a<n\/n+12<a):iV h' N n r A :=
 lH.ch F c (λz=>by have:=hA _ z;lia) (λz=>by have:=hA _ z;lia) λe he=>by
  have:=nQ e he;refine⟨λz=>?_,λx hx z=>?_⟩
  ·have:=hA _ z;lia
  ·have:=hA _ z;have:=this;have:=(nQ e he).2 x hx
   lia
end bI
set_option maxHeartbeats 4000000
namespace bI
open PySem L2 L2.U
def Mo(V:Vs)(r:Rw)(s:Sp):Prop:=((∃o,r=.put s o)/\RD V s)\/((∃o,r=.fill s o)/\(s=.c\/s=.s))\/((∃w o p,r=.set s w o p)/\RD V s)
theorem EH(c:Nat){N:Nm}(K:bt N)(F:List Rw){V:Vs}{g:List aj}{q:Nat}{r:Rw}{s:Sp}{u:PV}(hu:(∀x,s=.i x->u=stP V.c)/\∀x,s=.j x->u=stP V.s)(hz:Vz N V)(hp:wO g (.ref q) (iy V (bX r)++E6 V s))(ho:∀o∈bX r,Bj V o)(hb:∀o∈bX r,Bd (opV V o))(hE:g.isEmpty=false)
  (hr:Mo V r s) (hl:∀v,(E6 V s).getLast?=some v->∀L,bu (g++L) (.ref q) (.int (-1))=some v) :
  run aM (c+8) "written" [fdP N F,bK N r,.ref q,.lst [u]] g=some (.ok (.lst [SQ N V (Bn V r) s]),g++[⟨.lst,jY V r⟩]):=by
 have hs:=hz.h K;have e1:=aay (c+3) (N:=N) hs hp ho hb ⟨_,rfl⟩ hE (by
  rcases hr with⟨⟨o,h⟩,_⟩ | ⟨⟨o,h⟩,_⟩ | ⟨⟨w,o,p,h⟩,_⟩
  ·exact .inl ⟨s,o,h⟩
  ·exact .inr (.inl ⟨s,o,h⟩)
  ·exact .inr (.inr ⟨s,w,o,p,h⟩))
 have RE:(g++[(⟨.lst,jY V r⟩:aj)]).isEmpty=false:=by cases g<;>rfl
 have main:∀w:Str,w="put"\/w="set"->RD V s->(∀h,bu h (bK N r) (.int 0)=some (.str w))->(∀h,bu h (bK N r) (.int 1)=some (gm N s))->run aM (c+8) "written" [fdP N F,bK N r,.ref q,.lst [u]] g=some (.ok (.lst [SQ N V (Bn V r) s]),g++[⟨.lst,jY V r⟩]):=λw hw hA e3 e5=>by
  cases s with
  | c=>exact absurd hA id
  | s=>exact absurd hA id
  | a=>exact wR c hw e1 e3 e5 (λh=>rfl) hE
  | b=>exact wR c hw e1 e3 e5 (λh=>rfl) hE
  | d=>exact wR c hw e1 e3 e5 (λh=>rfl) hE
  | n=>exact wR c hw e1 e3 e5 (λh=>rfl) hE
  | i x =>
   rw[hu.1 x rfl];exact NH c hw hs.c (hz.c8 K) e1 e3 e5 (λh=>by cases x<;>rfl) (λi e=>by subst e;exact hA) (λv hv=>hl v (by show(Jy V x).getLast?=_;rw[hv];rfl) _) hE
  | j x =>
   rw[hu.2 x rfl];exact NH c hw hs.s (hz.s8 K) e1 e3 e5 (λh=>by cases x<;>rfl) (λi e=>by subst e;exact hA) (λv hv=>hl v (by show(Jy V x).getLast?=_;rw[hv];rfl) _) hE
 rcases hr with⟨⟨o,rfl⟩,hA⟩ | ⟨⟨o,rfl⟩,h2⟩ | ⟨⟨w,o,p,rfl⟩,hA⟩
 ·exact main "put" (.inl rfl) hA (λh=>rfl) λh=>rfl
 ·rw[Ma c K h2 e1 hE RE];rcases h2 with rfl | rfl<;>rfl
 ·exact main "set" (.inr rfl) hA (λh=>rfl) λh=>rfl
end bI
set_option maxHeartbeats 4000000
namespace bI
open PySem L2 L2.U
theorem C9(c:Nat){N:Nm}{F:List Rw}{fs:List PV}{bW:Int}{bE:List Int}{g X:List aj}{n k q r0 b:Nat}{A:Ra}{a:Ac}{row:PV}{Wv:List PV}
  (hR:cF g 2 N F 0 3 4 5 fs bW bE) (hB:iV g N n r0 A) (W:Wd g (b+2)) (ft:oQ (Hn N n A) a) (hw:a.w="fill"\/a.w="turn") (hm:a.m<=2) (hv:a.w≠"fill"->∀x∈aF (Hn N n A) a,ej x.2=false)
  (hwr:∀g1,Ch g g1 [1]->run aM (c+8) "written" [fdP N F,row,.ref q,cS (aF (Hn N n A) a)] g1=some (.ok (.lst Wv),g1++X)) (hWl:Wv.length=(aF (Hn N n A) a).length) :
  ∃g',run aM (c+9) "do_act" [.ref 2,.ref (n+12),row,cL k a,.ref q] g=some (.ok (cS (aF (Hn N n A) a)),g')/\Ch g g' (1::(aF (Hn N n A) a).map (·.1))/\Wd g' b/\lH g' (n+12) n 0 (r0:Int) (Md (Hn N n A) (aF (Hn N n A) a) Wv):=by
 have tw:Tw a:=.inr hw;have e1:=C7 (c+7) k a tw;obtain⟨g1,e2,c1,w1⟩:=CO (c+2) (k:=k) (n:=b) hB ft tw hm hv W;have e2:run aM (c+8) "Boxes.touch" [.ref 0,.ref (n+12),cL k a] g=some (.ok (cS (aF (Hn N n A) a)),g1):=e2;have R1:=hR.ch c1 (by simp)
 have B1:=hB.SS W.l1 c1;have e3:=ak hR.r rfl;have e3a:=ak R1.r rfl;have e3b:=ak (R1.app X).r rfl;have e4:=λL=>W.mt L "touch" (by kernel_rfl)
 have w2:Wd (g1++X) b:=w1.ch (Ch.app g1 _ []) (by simp)
 have e4b:=λL=>w1.mt L "store" (by kernel_rfl)
 have e4c:=λL=>w2.mt L "store" (by kernel_rfl)
 have e5:∀h,KU false h (.str a.w) (.au [.str "fill",.str "turn"])=some (.bl true):=λh=>by rcases hw with z | z<;>rw[z]<;>rfl
 have e6:=ak B1.f rfl;have e7:∀h,bu h (.au [fdP N F]) (.int 0)=some (fdP N F):=λh=>rfl
 have hE:=fx hB.f;have oR:=fx B1.f;have e8:=hwr g1 c1;obtain⟨g2,e9,c9,b9⟩:=Mf (c+6) (k:=k) (W:=Wv) (B1.app X) ft hWl;have IE:=fx (B1.app X).f;have nr:ao [cL k a]=true:=by simp[ao,nZ]
 have WI:ao [fdP N F,row,.ref q,cS (aF (Hn N n A) a)]=false:=by simp[ao,noRef]
 refine⟨g2,?_,?_,?_,b9⟩
 ·rw[lu];simp only[↓bM,uo,e1,e2,e3,e3a,e3b,e4,e4b,e4c,e5,e6,e7,e8,e9,hE,oR,IE,nr,WI,nZ,aW,aU,bT,bQ]
 ·exact((c1.mono (by simp)).tr (Ch.app g1 X []) (by simp)).tr c9 (λm hm _=>cG _ hm)
 ·refine w2.ch c9 ?_;obtain⟨gg,Q,t,i1,i2,i3⟩:=rA B1 ft;obtain⟨nb,nt,es,a0,a1,_⟩:=w1;refine⟨λz=>?_,λz=>?_⟩
  ·obtain⟨x,hx,xi⟩:=bZ.mp z;obtain⟨m,hm⟩:=i3 x hx;have xi:x.1=0:=xi;rw[xi,a0]at hm;cases hm
  ·obtain⟨x,hx,xi⟩:=bZ.mp z;obtain⟨m,hm⟩:=i3 x hx;have xi:x.1=1:=xi;rw[xi,a1]at hm;cases hm
end bI
set_option maxHeartbeats 4000000
namespace bI
open PySem L2 L2.U
theorem Mp{N:Nm}{n:Nat}{A:Ra}{a:Ac}(ft:oQ (Hn N n A) a):∀m∈(aF (Hn N n A) a).map (·.1),n<m/\m<n+12:=by
 intro m hm;obtain⟨x,hx,rfl⟩:=bZ.mp hm;obtain⟨P,l,_⟩:=ft;rw[lA l]at hx;exact(nQ _ (nP l)).2 x (uP (uO hx))
theorem ux(c:Nat){N:Nm}{F:List Rw}{fs:List PV}{bW:Int}{bE:List Int}{h X:List aj}{n k r0 b:Nat}{A:Ra}{r:Rw}{B:List Ac}{a:Ac}{Wv:List PV}
  (hR:cF h 2 N F 0 3 4 5 fs bW bE) (hB:iV h N n r0 A) (W:Wd h (b+12)) (aaC:b7 N r=B++[a]) (Al:B.length<=5) (EY:∀a∈B,E8 (Hn N n A) a)
  (ft:oQ (Hn N n A) a) (hw:a.w="fill"\/a.w="turn") (hm:a.m<=2) (hv:a.w≠"fill"->∀x∈aF (Hn N n A) a,ej x.2=false)
  (hwr:∀g1,g1[h.length]?=some ⟨.lst,B.map λa=>cS (aF (Hn N n A) a)⟩->run aM (c+8) "written" [fdP N F,bK N r,.ref h.length,cS (aF (Hn N n A) a)] g1=some (.ok (.lst Wv),g1++X)) (hWl:Wv.length=(aF (Hn N n A) a).length) :
  ∃v h',run aM (c+10) "do_acts" [.ref 2,.ref (n+12),bK N r,.lst ((b7 N r).map (cL k))] h=some (.ok v,h')/\Ch h h' (1::(aF (Hn N n A) a).map (·.1))/\Wd h' b/\lH h' (n+12) n 0 (r0:Int) (Md (Hn N n A) (aF (Hn N n A) a) Wv):=by
 have ln:=iV.lt hB;have l5:5<h.length:=d8 hR.sd;obtain⟨G,hG⟩:∃G,G=B.map (λa=>cS (aF (Hn N n A) a)):=⟨_,rfl⟩
 have Gl:G.length<=5:=by rw[hG,aT];exact Al
 obtain⟨g1,y5,e1,c1,q1,w1⟩:=lC (c+2) (k:=k) (row:=bK N r) (so:=.lst ((b7 N r).map (cL k))) hR hB W.l1 B [] (h++[⟨.lst,[]⟩]) none (b+2) (Ch.app _ _ _) cX ((W.ch (Ch.app h _ []) (by simp)).mono (by lia)) EY (by simp;lia)
 have e1:=e1 [cL k a];rw[dG,<-hG]at q1;rw[show B.map (cL k)++[cL k a]=(b7 N r).map (cL k) by rw[aaC];simp]at e1
 have R1:=hR.ch c1 (by simp)
 have B1:=hB.SS W.l1 c1;obtain⟨g2,e2,c2,w2,b2⟩:=C9 c (k:=k) (q:=h.length) (row:=bK N r) R1 B1 w1 ft hw hm hv (λg' cg=>hwr g' (by rw[<-hG];exact cg.get q1 (by simp;lia))) hWl
 have aa:=Mp ft;have XQ:h.length∉1::(aF (Hn N n A) a).map (·.1):=λz=>by
  rcases aG.mp z with z | z
  ·lia
  ·have:=aa _ z;lia
 have q2:=c2.get q1 XQ;have a1:=λρ v=>fg (ρ:=ρ) (v:=v) q2 (by lia)
 have d0:=ak q1 rfl;have d1:=ak q2 rfl;obtain⟨g3,hg3⟩:∃g3,g3=g2.set h.length ⟨.lst,G++[cS (aF (Hn N n A) a)]⟩:=⟨_,rfl⟩
 have q3:g3[h.length]?=some ⟨.lst,G++[cS (aF (Hn N n A) a)]⟩:=by rw[hg3];exact cC q2
 have a1:∀ρ,fu (dN fw) (.ref h.length) [cS (aF (Hn N n A) a)] ⟨ρ,g2⟩=some (.ok .aL,⟨ρ,g3⟩):=λρ=>by rw[hg3];exact a1 ρ _
 have e3:=dy q3 rfl;have hE:=fx q1;have IE:=fx q2;have nr:∀l,ao (.ref 2::l)=false:=ko 2
 have c3:Ch g2 (g3.set h.length oF) [h.length]:=by rw[hg3];exact(Ch.set _).tr (Ch.set _) (λ_ h _=>h)
 refine⟨.lst (G++[cS (aF (Hn N n A) a)]),g3.set h.length oF,?_,?_,w2.ch c3 (by simp;lia),?_⟩
 ·have e4:gj (dh 5) (cR (run aM (c+9))) [cL k a] ⟨[some (.ref 2),some (.ref (n+12)),some (bK N r),some (.lst ((b7 N r).map (cL k))),some (.ref h.length),y5],g1⟩=some (.ok .nx,⟨[some (.ref 2),some (.ref (n+12)),some (bK N r),some (.lst ((b7 N r).map (cL k))),some (.ref h.length),some (cL k a)],g3⟩):=by
   refine aY ?_
   delta cR gy
   simp only[↓fA,e2,a1,d0,d1,hE,IE,nr,aW,aU]
  have e5:=e1.trans e4
  revert e5
  delta cR gy
  intro e5;rw[jT];simp only[↓bM,e5,e3]
 ·exact((c1.mono (by simp)).tr c2 (λ_ h _=>h)).tr c3 (λm hm hl=>by rw[bh]at hm;lia)
 ·refine lH.ch b2 c3 (by simp;lia) (by simp;lia) λe he=>?_
  obtain⟨e0,Mg,rfl⟩:=bZ.mp he;have:=nQ e0 Mg;refine⟨by simp only[bh];lia,λx hx=>?_⟩
  obtain⟨x0,WA,rfl⟩:=bZ.mp hx;have:=this.2 x0 WA;simp only[bh]
  lia
end bI
set_option maxHeartbeats 4000000
namespace bI
open PySem L2 L2.U
noncomputable def xk(A:Ra):N5->Ra
 | .a=>{A with a:=.aL}
 | .b=>{A with b:=.aL}
 | .c=>{A with c:=.aL}
 | .d=>{A with d:=.aL}
 | .e=>{A with n:=.aL,s:=.aL}
theorem WJ(N:Nm)(n:Nat)(A:Ra)(x:N5):WC (Hn N n A) (gT n A x)=Hn N n (xk A x):=by
 cases x<;>simp[WC,Hn,gT,xk]
theorem WK(N:Nm)(n:Nat)(A:Ra)(x:N5):Md (Hn N n (xk A x)) (gT n (xk A x) x) ((gT n A x).map (·.2))=Hn N n A:=by
 cases x<;>simp[Md,Hn,gT,xk,newV]
theorem WL(n:Nat)(A:Ra)(x:N5):((gT n A x).map (·.1)).Nodup:=by cases x<;>simp[gT]
theorem RM(n:Nat)(A B:Ra)(x:N5):(gT n A x).map (·.1)=(gT n B x).map (·.1):=by cases x<;>rfl
theorem WM(n:Nat)(A B:Ra)(x:N5):(gT n A x).length=(gT n B x).length:=by cases x<;>rfl
theorem IM(c:Nat)(k:Nat)(N:Nm)(x:N5):run aM (c+1) "is_lending" [cL k (Bi N "empty" x)] []=some (.ok (.bl false),[]):=by
 cases x<;>kernel_rfl
theorem Mq(c:Nat){N:Nm}(K:bt N){F:List Rw}{fs:List PV}{bW:Int}{bE:List Int}{g:List aj}{n k q r0 b:Nat}{A:Ra}{x:N5}{row:PV}
  (hR:cF g 2 N F 0 3 4 5 fs bW bE) (hB:iV g N n r0 A) (W:Wd g (b+2)) (hv:∀y∈gT n A x,ej y.2=false) :
  ∃g',run aM (c+9) "do_act" [.ref 2,.ref (n+12),row,cL k (Bi N "empty" x),.ref q] g=some (.ok (cS (gT n A x)),g')/\Ch g g' (1::(gT n A x).map (·.1))/\Wd g' b/\iV g' N n r0 (xk A x):=by
 have e1:=IM (c+7) k N x;have pl:aF (Hn N n A) (Bi N "empty" x)=gT n A x:=kh K n A x "empty" "";obtain⟨g1,e2,c1,w1,b1⟩:=Mm (c+2) (k:=k) (n:=b) (a:=Bi N "empty" x) hB (hJ K n A x "empty" "") rfl (Mn x) (by rw[pl];exact WL n A x) (by rw[pl];exact hv) W
 rw[pl]at e2 c1 b1;rw[WJ]at b1;have e2:run aM (c+8) "Boxes.touch" [.ref 0,.ref (n+12),cL k (Bi N "empty" x)] g=some (.ok (cS (gT n A x)),g1):=e2;have e3:=ak hR.r rfl;have e4:=λL=>W.mt L "touch" (by kernel_rfl)
 have e5:∀h,KU false h (.str "empty") (.au [.str "fill",.str "turn"])=some (.bl false):=λh=>rfl
 have e6:∀h,bu h (cL k (Bi N "empty" x)) (.int 1)=some (.str "empty"):=λh=>rfl
 have hE:=fx hB.f;have oR:=fx b1.f;have nr:ao [cL k (Bi N "empty" x)]=true:=by simp[ao,nZ]
 refine⟨g1,?_,c1,w1,b1⟩;rw[lu];simp only[↓bM,e1,e2,e3,e4,e5,e6,hE,oR,nr,nZ,aW,aU,bT,bQ]
theorem IP(c:Nat){N:Nm}(K:bt N){F:List Rw}{fs:List PV}{bW:Int}{bE:List Int}{h:List aj}{n k r0 b:Nat}{A:Ra}{x:N5}
  (hR:cF h 2 N F 0 3 4 5 fs bW bE) (hB:iV h N n r0 A) (W:Wd h (b+12)) (hv:∀y∈gT n A x,ej y.2=false) :
  ∃v h',run aM (c+10) "do_acts" [.ref 2,.ref (n+12),bK N (.fP x),.lst ((b7 N (.fP x)).map (cL k))] h=some (.ok v,h')/\Ch h h' (1::(gT n A x).map (·.1))/\Wd h' b/\iV h' N n r0 A:=by
 have ln:=iV.lt hB;have l5:5<h.length:=d8 hR.sd;have aa:∀m∈(gT n A x).map (·.1),n<m/\m<n+12:=by cases x<;>simp[gT]
 have XQ:h.length∉1::(gT n A x).map (·.1):=λz=>by
  rcases aG.mp z with z | z
  ·lia
  ·have:=aa _ z;lia
 have R0:=hR.app [⟨.lst,[]⟩];have B0:iV (h++[⟨.lst,[]⟩]) N n r0 A:=lH.app _ hB;have q0:(h++[(⟨.lst,[]⟩:aj)])[h.length]?=some ⟨.lst,[]⟩:=cX;obtain⟨g1,e1,c1,w1,b1⟩:=Mq c K (k:=k) (q:=h.length) (x:=x) (row:=bK N (.fP x)) (b:=b+2) R0 B0 ((W.ch (Ch.app h _ []) (by simp)).mono (by lia)) hv
 have q1:=c1.get q0 XQ;obtain⟨g2,xb⟩:∃g2,g2=g1.set h.length ⟨.lst,[cS (gT n A x)]⟩:=⟨_,rfl⟩
 have c2:Ch g1 g2 [h.length]:=by rw[xb];exact Ch.set _
 have q2:g2[h.length]?=some ⟨.lst,[cS (gT n A x)]⟩:=by rw[xb];exact cC q1
 have n4:∀m:Nat,m=2\/m=3\/m=4\/m=5->m<h.length:=λm hm=>by lia
 have n6:n<=n:=aA n;have R1:cF g1 2 N F 0 3 4 5 fs bW bE:=by
  refine R0.ch c1 ?_;have no:∀m,(∃cc,(h++[(⟨.lst,[]⟩:aj)])[m]?=some cc/\∀mm t v,cc≠jj mm t v)->m≠1->m∉1::(gT n A x).map (·.1):=by
   rintro m ⟨cc,e,hc⟩ h1 z
   rcases aG.mp z with z | z
   ·exact h1 z
   ·obtain⟨y,hy,hyn⟩:=bZ.mp z;have hyn:y.1=m:=hyn;obtain⟨t,_,a2⟩:=B0.p _ (nP (RG K n A x));obtain⟨mm,hm⟩:=a2 y hy;rw[hyn,e]at hm;exact hc mm t y.2 (aZ hm)
  exact⟨no 2 ⟨_,R0.r,λmm t v z=>by cases z⟩ (by decide),no 3 ⟨_,R0.nu,λmm t v z=>by cases z⟩ (by decide),no 4 ⟨_,R0.fl,λmm t v z=>by cases z⟩ (by decide),no 5 ⟨_,R0.sd,λmm t v z=>by cases z⟩ (by decide)⟩
 have R2:=R1.ch c2 (by simp;lia)
 have B2:iV g2 N n r0 (xk A x):=iV.ch b1 c2 (by simp;lia)
 have W2:Wd g2 (b+2):=w1.ch c2 (by simp;lia)
 have pl:aF (Hn N n (xk A x)) (Bi N "fill" x)=gT n (xk A x) x:=kh K n (xk A x) x "fill" "";have hwr:∀g',Ch g2 g' [1]->run aM (c+8) "written" [fdP N F,bK N (.fP x),.ref h.length,cS (aF (Hn N n (xk A x)) (Bi N "fill" x))] g'=some (.ok (.lst ((gT n A x).map (·.2))),g'++[]):=λg' cg=>by
  have q3:=cg.get q2 (by simp;lia)
  rw[c6];exact Mc c (by have d:=ak q3 rfl;simp only[bu,d];rfl)
 obtain⟨g3,e3,c3,w3,b3⟩:=C9 c (k:=k) (q:=h.length) (row:=bK N (.fP x)) (a:=Bi N "fill" x) R2 B2 W2 (hJ K n (xk A x) x "fill" "") (.inl rfl) (Mn x) (λz=>absurd rfl z) hwr (by rw[pl,aT];exact WM n A (xk A x) x)
 rw[pl]at e3 c3 b3;rw[WK]at b3;rw[RM n (xk A x) A x]at c3;have q3:=c3.get q2 XQ;have a1:∀ρ,fu (dN fw) (.ref h.length) [cS (gT n A x)] ⟨ρ,g1⟩=some (.ok .aL,⟨ρ,g2⟩):=λρ=>by rw[xb];exact fg q1 (by simp)
 obtain⟨g4,hg4⟩:∃g4,g4=g3.set h.length ⟨.lst,[cS (gT n A x),cS (gT n (xk A x) x)]⟩:=⟨_,rfl⟩
 have q4:g4[h.length]?=some ⟨.lst,[cS (gT n A x),cS (gT n (xk A x) x)]⟩:=by rw[hg4];exact cC q3
 have a2:∀ρ,fu (dN fw) (.ref h.length) [cS (gT n (xk A x) x)] ⟨ρ,g3⟩=some (.ok .aL,⟨ρ,g4⟩):=λρ=>by rw[hg4];exact fg q3 (by simp)
 have d0:=ak q0 rfl;have d1:=ak q1 rfl;have d2:=ak q2 rfl;have d3:=ak q3 rfl;have SN:=fx q0;have oR:=fx q1;have IE:=fx q2;have hE3:=fx q3;have nr:∀l,ao (.ref 2::l)=false:=ko 2
 have ce:=dy q4 rfl;have c4:Ch g3 (g4.set h.length oF) [h.length]:=by rw[hg4];exact(Ch.set _).tr (Ch.set _) (λ_ h _=>h)
 refine⟨.lst [cS (gT n A x),cS (gT n (xk A x) x)],g4.set h.length oF,?_,?_,w3.ch c4 (by simp;lia),iV.ch b3 c4 (by simp;lia)⟩
 ·rw[jT];show _=_;have rw2:(b7 N (.fP x)).map (cL k)=[cL k (Bi N "empty" x),cL k (Bi N "fill" x)]:=rfl;rw[rw2];simp only[↓bM,e1,e3,a1,a2,d0,d1,d2,d3,SN,oR,IE,hE3,nr,ce,aW,aU]
 ·have u1:Ch h g1 (1::(gT n A x).map (·.1)):=(Ch.app h [⟨.lst,[]⟩] _).tr c1 (λ_ h _=>h)
  have u2:=u1.tr c2 (λm hm hl=>by rw[bh]at hm;lia)
  have u3:=u2.tr c3 (λ_ h _=>h)
  exact u3.tr c4 (λm hm hl=>by rw[bh]at hm;lia)
end bI
set_option maxHeartbeats 4000000
namespace bI
open PySem L2 L2.U
theorem IQ(c:Nat){N:Nm}(K:bt N){F:List Rw}{fs:List PV}{bW:Int}{bE:List Int}{h:List aj}{n k r0 b:Nat}{A:Ra}{V:Vs}{r:Rw}{s:Sp}
  (hR:cF h 2 N F 0 3 4 5 fs bW bE) (hB:iV h N n r0 A) (W:Wd h (b+12)) (hz:Vz N V) (ht:xj r=some s) (hr:Mo V r s) (ho:∀o∈bX r,Bj V o) (hb:∀o∈bX r,Bd (opV V o))
  (EY:∀a∈iz N (bX r)++sv N s,E8 (Hn N n A) a) (hv:(iz N (bX r)++sv N s).map (λa=>cS (aF (Hn N n A) a))=iy V (bX r)++E6 V s) (hA:(∀x,s=.i x->A.c=stP V.c)/\∀x,s=.j x->A.s=stP V.s) :
  ∃v h',run aM (c+10) "do_acts" [.ref 2,.ref (n+12),bK N r,.lst ((b7 N r).map (cL k))] h=some (.ok v,h')/\Ch h h' [1,E7 n s]/\Wd h' b/\iV h' N n r0 (fj A (SQ N V (Bn V r) s) s):=by
 obtain⟨wd,hwd,ea⟩:=RI N s;have pl:aF (Hn N n A) (WE N s)=[(E7 n s,SR A s)]:=by rw[ea];exact rN K n A s wd ""
 have Al:(iz N (bX r)++sv N s).length<=5:=by
  have:=rP N (bX r);have:=rL r;have:=j9 N s;rw[bB];lia
 have l5:5<h.length:=d8 hR.sd;obtain⟨v,h',e,c1,w1,b1⟩:=ux c (k:=k) (r:=r) (B:=iz N (bX r)++sv N s) (a:=WE N s) (Wv:=[SQ N V (Bn V r) s]) (X:=[⟨.lst,jY V r⟩]) hR hB W (RJ N ht) Al EY (by rw[ea];exact iW K n A s wd "") (by rw[ea];rcases hwd with rfl | rfl;exact .inl rfl;exact .inr rfl) (by rw[ea];exact(show 1<=2 by decide)) (λhf x hx=>by
  rw[pl,bh]at hx;rw[hx];cases s with
  | i x=>rw[show SR A (.i x)=A.c from rfl,hA.1 x rfl];rfl
  | j x=>rw[show SR A (.j x)=A.s from rfl,hA.2 x rfl];rfl
  | _=>exact absurd rfl hf) (λg1 hg=>by
  rw[hv]at hg;rw[pl];exact EH c K F (u:=SR A s) ⟨λx hx=>by rw[hx];exact hA.1 x hx,λx hx=>by rw[hx];exact hA.2 x hx⟩ hz ⟨λi v L hi=>by
   have d:=ak (bJ (g:=L) hg) rfl;simp only[bu,d];exact atI_nat hi⟩ ho hb (fx hg) hr λv YD L=>by
   have d:=ak (bJ (g:=L) hg) rfl;simp only[bu,d];exact yU (by rw[List.getLast?_append,YD];rfl)) (by rw[pl];rfl)
 rw[pl]at c1 b1;rw[yT]at b1;exact⟨v,h',e,c1,w1,b1⟩
noncomputable def IS:Sp->Bool
 | .c=>true
 | .s=>true
 | _=>false
noncomputable def EI:Sp->Bool
 | .a=>true
 | .b=>true
 | .d=>true
 | .n=>true
 | _=>false
def cpV(V:Vs)(s t:Sp):Vs:=match s with
 | .a=>{V with a:=SO V t}
 | .b=>{V with b:=SO V t}
 | .d=>{V with d:=SO V t}
 | .n=>{V with n:=SO V t}
 | .c=>{V with c:=gv V t}
 | .s=>{V with s:=gv V t}
 | _=>V
theorem IT(V:Vs){s t:Sp}(h:(EI s=true/\EI t=true)\/(IS s=true/\IS t=true)):fj (ij V) (sT V t) s=ij (cpV V s t):=by
 rcases h with⟨h1,h2⟩ | ⟨h1,h2⟩<;>cases s<;>cases t<;>(first | rfl | exact absurd h1 cw | exact absurd h2 cw)
def dC(N:Nm)(V:Vs):Rw->Vs
 | .put s o=>wV N V (opV V o) s
 | .fill s o=>wV N V (opV V o) s
 | .set s g o p=>wV N V (RC g (opV V o) (opV V p)) s
 | .dR s t=>cpV V s t
 | _=>V
theorem RN(c:Nat){N:Nm}(K:bt N){F:List Rw}{fs:List PV}{bW:Int}{bE:List Int}{h:List aj}{n k r0 b:Nat}{V:Vs}{s t:Sp}
  (hR:cF h 2 N F 0 3 4 5 fs bW bE) (hB:iV h N n r0 (ij V)) (W:Wd h (b+12)) (hs:(EI s=true/\EI t=true)\/(IS s=true/\IS t=true)) :
  ∃v h',run aM (c+10) "do_acts" [.ref 2,.ref (n+12),bK N (.dR s t),.lst ((b7 N (.dR s t)).map (cL k))] h=some (.ok v,h')/\Ch h h' [1,E7 n s]/\Wd h' b/\iV h' N n r0 (ij (cpV V s t)):=by
 have pl:aF (Hn N n (ij V)) (uu N "fill" s)=[(E7 n s,sT V s)]:=wU K n V s "fill" "";have pt:aF (Hn N n (ij V)) (uu N "read" t)=[(E7 n t,sT V t)]:=wU K n V t "read" "";obtain⟨v,h',e,c1,w1,b1⟩:=ux c (k:=k) (r:=.dR s t) (B:=[uu N "read" t]) (a:=uu N "fill" s) (Wv:=[sT V t]) (X:=[]) hR hB W rfl (by simp) (λa ha=>by rw[bh.mp ha];exact NJ K n V t) (iW K n _ s "fill" "") (.inl rfl) (show 1<=2 by decide) (λz=>absurd rfl z) (λg1 hg=>by
  rw[c6];refine Mb c ?_;have d:=ak hg rfl;simp only[bu,d,aP,dZ,pt];rfl) (by rw[pl];rfl)
 rw[pl]at c1 b1;rw[yT,IT V hs]at b1;exact⟨v,h',e,c1,w1,b1⟩
end bI
set_option maxHeartbeats 4000000
namespace bI
open PySem L2 L2.U
structure Bp (h:List aj) (N:Nm) (F:List Rw) (fs:List PV) (bW:Int) (bE:List Int) (n r0:Nat) (A:Ra) (r:Rw):Prop where
 R:cF h 2 N F 0 3 4 5 (fs++[.ref (n+12)]) bW bE
 B:iV h N n r0 A
 r:F[r0]?=some r
variable {h:List aj} {N:Nm} {F:List Rw} {fs:List PV} {bW:Int} {bE:List Int} {n r0:Nat} {A:Ra} {r:Rw}
theorem yV(c:Nat)(T:Bp h N F fs bW bE n r0 A r):run aM (c+1) "row_of" [.ref 2,.ref (n+12)] h=some (.ok (bK N r),h):=by
 rw[A9];have e1:=ak T.R.r rfl;have e2:=ak T.B.f rfl;have e3:∀h,bu h (.au [fdP N F]) (.int 0)=some (fdP N F):=λh=>rfl
 have e4:∀h,bu h (fdP N F) (.int 4)=some (.au (F.map (bK N))):=λh=>rfl
 have e5:∀h,bu h (.au (F.map (bK N))) (.int (r0:Int))=some (bK N r):=λh=>atI_nat (by rw[cY,T.r];rfl)
 simp only[↓bM,e1,e2,e3,e4,e5]
theorem uy(c:Nat)(T:Bp h N F fs bW bE n r0 A r):run aM (c+1) "acts_of" [.ref 2,.ref (n+12)] h=some (.ok (.lst ((b7 N r).map (cL r0))),h):=by
 rw[yD];have e1:=ak T.R.r rfl;have e2:=ak T.B.f rfl;have e3:∀h,bu h (.lst [D9 N F]) (.int 0)=some (D9 N F):=λh=>rfl
 have e5:∀h,bu h (D9 N F) (.int (r0:Int))=some (.lst ((b7 N r).map (cL r0))):=λh=>atI_nat (by rw[cY,Iw N F 0 r0 r T.r,ny];rfl)
 simp only[↓bM,e1,e2,e3,e5]
def rQ(V:Vs)(k:Nat):Rw->Nat
 | .go j=>j
 | .ifs o p j=>if opV V o<opV V p then j else k+1
 | _=>k+1
def uz(V:Vs):Rw->List Int
 | .jV o=>[opV V o]
 | _=>[]
theorem Dc{ps:List PV}(h:ao ps=true):iu [⟨.lst,ps⟩] (.ref 0)=some (.lst ps):=rH h
theorem RO(V:Vs)(o:Op):ao (yS V o)=true:=by
 cases o with
 | num i=>rfl
 | sp s =>
  have h1:∀s:List Int,noRef (stP s)=true:=λs=>Rf (gq (λ_=>rfl) s)
  cases s
  case i x=>cases x<;>simp[yS,E6,Jy,sT,ao,noRef,h1]
  case j x=>cases x<;>simp[yS,E6,Jy,sT,ao,noRef,h1]
  all_goals simp[yS,E6,sT,ao,noRef,h1]
theorem Bq{A B:List PV}(h1:ao A=true)(h2:ao B=true):ao (A++B)=true:=by
 induction A with
 | nil=>exact h2
 | cons a A ih =>
  simp only[ao,aH]at h1;rw[kL,ao,h1.1,ih h1.2];rfl
theorem Br(V:Vs):∀os,ao (iy V os)=true
 | []=>rfl
 | o::os=>Bq (RO V o) (Br V os)
theorem NK(c:Nat){V:Vs}(hs:Hs V)(ho:∀o∈bX r,Bj V o):run aM (c+3) "numbers_found" [bK N r,.lst (iy V (bX r))] []=some (.ok (.ref 0),[⟨.lst,jY V r⟩]):=by
 have:=Wz c (N:=N) (V:=V) (g:=[]) (p:=.lst (iy V (bX r))) (G:=iy V (bX r)) (r:=r) hs ⟨λi v L hi=>atI_nat hi⟩ ho ⟨[],by simp⟩
 exact this
theorem IU(V:Vs)(r:Rw):ao (jY V r)=true:=gq (λ_=>rfl) _
theorem yW(c:Nat){V:Vs}{found:PV}(T:Bp h N F fs bW bE n r0 A r)(hs:Hs V)(ho:∀o∈bX r,Bj V o)(hf:(∃o p k,r=.ifs o p k)->found=.lst (iy V (bX r)))(hg:r≠.dr) :
  run aM (c+4) "row_behind" [.ref (n+12),bK N r,found] h=some (.ok (.int (rQ V r0 r:Int)),h):=by
 rw[rj];have e1:=λh=>CU (h:=h) N r
 have e2:=ak T.B.f rfl;have e3:∀h,gK h (.int (r0:Int)) (.int 1)=some (.int ((r0+1:Nat):Int)):=λh=>rfl
 cases r
 case dr=>exact absurd rfl hg
 case go k=>simp only[↓bM,e1];rfl
 case ifs o p k =>
  have hfo:=hf ⟨o,p,k,rfl⟩;subst hfo;have e4:=NK c (N:=N) hs ho;have nr:ao [bK N (.ifs o p k),.lst (iy V (bX (.ifs o p k)))]=true:=by simp only[ao,uq,rD (Br _ _),pW]
  have e5:=Dc (IU V (.ifs o p k));have i0:∀h,bu h (.lst (jY V (.ifs o p k))) (.int 0)=some (.int (opV V o)):=λh=>rfl
  have i1:∀h,bu h (.lst (jY V (.ifs o p k))) (.int 1)=some (.int (opV V p)):=λh=>rfl
  have i2:∀h x y,UC h (.int x) (.int y)=some (.bl (decide (x<y))):=λh x y=>rfl
  by_cases vT:opV V o<opV V p
  ·have hd:=dW vT;simp only[↓bM,e1,e4,e5,nr,i0,i1,i2,hd,rQ,if_pos vT,bT,bQ]
  ·have hd:=cZ vT;simp only[↓bM,e1,e2,e3,e4,e5,nr,i0,i1,i2,hd,rQ,if_neg vT,bT,bQ]
 all_goals (simp only[↓bM,e1,e2,e3,rQ])
end bI
set_option maxHeartbeats 4000000
namespace bI
open PySem L2 L2.U
variable {h:List aj} {N:Nm} {F:List Rw} {fs:List PV} {bW:Int} {bE:List Int} {n r0:Nat} {A:Ra} {r:Rw}
abbrev zi(h:List aj)(N:Nm)(F:List Rw)(fs:List PV)(bW:Int)(bE:List Int):Prop:=cF h 2 N F 0 3 4 5 fs bW bE
noncomputable def yX(n:Nat):List Nat:=[1,n+1,n+2,n+3,n+4,n+5,n+6,n+7,n+8,n+9,n+10,n+11]
theorem Dd{h:List aj}{i d:Nat}{j r x:Int}{ρ:List (Option PV)}(e:h[i]?=some (pf j d r)):ek eL eM "row" (.ref i) (.int x) ⟨ρ,h⟩=some ⟨ρ,h.set i (pf j d x)⟩:=by
 rw[eA e (by kernel_rfl)]
 rfl
theorem wX{h:List aj}{i:Nat}{pr li:PV}{w nu fl sd:Nat}{x y:Int}{ρ:List (Option PV)}(e:h[i]?=some (Jx pr w nu li fl sd x)):ek eL eM "count" (.ref i) (.int y) ⟨ρ,h⟩=some ⟨ρ,h.set i (Jx pr w nu li fl sd y)⟩:=by
 rw[eA e (by kernel_rfl)]
 rfl
theorem iV.row{h:List aj}{N:Nm}{n r:Nat}{A:Ra}(B:iV h N n r A)(k:Nat):iV (h.set (n+12) (pf 0 n (k:Int))) N n k A :=
 ⟨cC B.f,by rw[bY (by lia)];exact B.d,λe he=>(B.p e he).ch (Ch.set _) (by rw[bh];have:=(nQ e he).1;lia) (λx hx=>by rw[bh];have:=(nQ e he).2 x hx;lia),B.l⟩
theorem cF.nR(hR:zi h N F fs bW bE)(y:Int):zi (h.set 2 (Jx (.au [fdP N F]) 0 3 (.lst [D9 N F]) 4 5 y)) N F fs y bE :=
 ⟨cC hR.r,by rw[bY (by decide)];exact hR.nu,by rw[bY (by decide)];exact hR.fl,by rw[bY (by decide)];exact hR.sd⟩
theorem De{h:List aj}{i:Nat}{fs:List PV}{p:PV}(e:h[i]?=some ⟨.lst,fs++[p]⟩):bu h (.ref i) (.int (-1))=some p:=by
 have d:=ak e rfl;simp only[bu,d];exact yU (by simp)
theorem RP{h:List aj}{n:Nat}{L R:List PV}{ρ:List (Option PV)}(e:h[n]?=some ⟨.lst,L⟩)(hl:L.length+R.length<=1000000):oB (.ref n) [.lst R] ⟨ρ,h⟩=some (.ok .aL,⟨ρ,h.set n ⟨.lst,L++R⟩⟩):=by
 show(fu (dN λps _=>if ps.length+R.length<=ic then some (ps++R)else none) (.ref n) [] ⟨ρ,h⟩)=_
 have e1:(if L.length+R.length<=ic then some (L++R)else none)=some (L++R):=if_pos (aR hl (by decide))
 show((jf h (.ref n)).bind λc=>(dN (λps _=>if ps.length+R.length<=ic then some (ps++R)else none) c.2 []).map λr=>_)=_
 rw[dy e rfl];show(((if L.length+R.length<=ic then some (L++R)else none).map λqs=>((⟨.lst,qs⟩:aj),PV.aL)).map λr=>_)=_
 rw[e1];rfl
structure rR (N:Nm) (V:Vs) (r:Rw):Prop where
 o:∀o∈bX r,Bj V o/\Bd (opV V o)
 t:∀s,xj r=some s->Mo V r s
 c:∀s t,r=.dR s t->(EI s=true/\EI t=true)\/(IS s=true/\IS t=true)
 g:r≠.dr
noncomputable def rdR:Rw->Bool
 | .jV _=>true
 | .ifs _ _ _=>true
 | _=>false
def lD(c:Nat)(h:List aj)(N:Nm)(n r0 b:Nat)(A':Ra)(V:Vs)(r:Rw):Prop :=
  ∃v h',run aM (c+10) "do_acts" [.ref 2,.ref (n+12),bK N r,.lst ((b7 N r).map (cL r0))] h=some (.ok v,h')/\Ch h h' (yX n)/\Wd h' b/\iV h' N n r0 A'/\(rdR r=true->v=.lst (iy V (bX r)))
theorem Bs(n:Nat)(s:Sp):∀m∈[1,E7 n s],m∈yX n:=by
 intro m hm;simp only[aG,bG,bH]at hm;rcases hm with rfl | rfl
 ·simp[yX]
 ·cases s<;>simp[E7,yX]
theorem IV(N:Nm)(V:Vs){r:Rw}{s:Sp}(h:xj r=some s):dC N V r=wV N V (Bn V r) s:=by
 cases r<;>cases h<;>rfl
theorem Bt(c:Nat)(K:bt N){b:Nat}{V:Vs}(T:Bp h N F fs bW bE n r0 (ij V) r)(W:Wd h (b+12))(hz:Vz N V)(ok:rR N V r):lD c h N n r0 b (ij (dC N V r)) V r:=by
 have reads:∀(e:b7 N r=iz N (bX r)) (q:dC N V r=V),lD c h N n r0 b (ij (dC N V r)) V r:=λe q=>by
  have ol:=rP N (bX r);have ol2:=rL r;obtain⟨h',e1,c1,w1⟩:=Mi (c+2) (k:=r0) (row:=bK N r) (n:=b) T.R T.B (iz N (bX r)) (Bo K n V _) (by lia) (W.mono (by lia))
  rw[wW K,<-e]at e1;refine⟨_,h',e1,c1.mono (by simp[yX]),w1,?_,λ_=>rfl⟩
  rw[q];exact lH.SS T.B W.l1 c1
 have writes:∀s,xj r=some s->rdR r=false->lD c h N n r0 b (ij (dC N V r)) V r:=λs ht hd=>by
  obtain⟨v,h',e,c1,w1,b1⟩:=IQ c K (k:=r0) (V:=V) T.R T.B W hz ht (ok.t s ht) (λo ho=>(ok.o o ho).1) (λo ho=>(ok.o o ho).2) (λa ha=>by
   rcases cH.mp ha with ha | ha
   ·exact Bo K n V _ a ha
   ·exact NI K n V s a ha) (by rw[eV,wW K,IL K]) ⟨λx hx=>rfl,λx hx=>rfl⟩
  refine⟨v,h',e,c1.mono (Bs n s),w1,?_,λz=>by rw[hd]at z;cases z⟩
  rw[IV N V ht,<-mJ];exact b1
 cases r with
 | put s o=>exact writes s rfl rfl
 | fill s o=>exact writes s rfl rfl
 | set s g o p=>exact writes s rfl rfl
 | jV o=>exact reads (by simp[b7,iz,bX]) rfl
 | ifs o p k=>exact reads (by simp[b7,iz,bX]) rfl
 | go k=>exact reads (by simp[b7,iz,bX]) rfl
 | dr=>exact absurd rfl ok.g
 | dR s t =>
  obtain⟨v,h',e,c1,w1,b1⟩:=RN c K (k:=r0) (V:=V) (s:=s) (t:=t) T.R T.B W (ok.c s t rfl);exact⟨v,h',e,c1.mono (Bs n s),w1,b1,λz=>by cases z⟩
 | fP x =>
  obtain⟨v,h',e,c1,w1,b1⟩:=IP c K (k:=r0) (x:=x) T.R T.B W (RK n V x);exact⟨v,h',e,c1.mono (by cases x<;>simp[gT,yX]),w1,b1,λz=>by cases z⟩
end bI
set_option maxHeartbeats 4000000
namespace bI
open PySem L2 L2.U
variable {h:List aj} {N:Nm} {F:List Rw} {fs:List PV} {bW:Int} {bE:List Int} {n r0:Nat} {A A':Ra} {V:Vs} {r:Rw}
theorem cF.WN(hR:zi h N F fs bW bE)(x:List Int):zi (h.set 5 ⟨.lst,x.map .int⟩) N F fs bW x :=
 ⟨by rw[bY (by decide)];exact hR.r,by rw[bY (by decide)];exact hR.nu,by rw[bY (by decide)];exact hR.fl,cC hR.sd⟩
theorem wY{h:List aj}{i:Nat}{pr li:PV}{w nu fl sd:Nat}{x:Int}(e:h[i]?=some (Jx pr w nu li fl sd x)):wb "count" (.ref i) h=some (("Run":Str),PV.int x):=by
 unfold wb;rw[ak e rfl];rfl
theorem EJ(c:Nat)(K:bt N){b:Nat}(T:Bp h N F fs bW bE n r0 A r)(hn:6<=n)(hz:Vz N V)(hw:Wd h b)(ho:∀o∈bX r,Bj V o)(hg:r≠.dr)(aaI:lD c h N n r0 b A' V r)(hsd:bE.length<=10000) :
  ∃h',run aM (c+11) "do_row" [.ref 2] h=some (.ok .aL,h')/\zi h' N F (fs++[.ref (n+12)]) (bW+1) (bE++uz V r)/\iV h' N n (rQ V r0 r) A'/\Wd h' b:=by
 have hs:=hz.h K;obtain⟨v,h1,e1,c1,w1,b1,v1⟩:=aaI;have m6:∀{B:List Nat},(∀m∈B,m=1\/6<m)->2∉B/\3∉B/\4∉B/\5∉B:=λhB=>⟨λz=>by have:=hB _ z;lia,λz=>by have:=hB _ z;lia,λz=>by have:=hB _ z;lia,λz=>by have:=hB _ z;lia⟩
 have R1:zi h1 N F (fs++[.ref (n+12)]) bW bE:=T.R.ch c1 (m6 λm hm=>by simp only[yX,aG,bG,bH]at hm;omega)
 have T1:Bp h1 N F fs bW bE n r0 A' r:=⟨R1,b1,T.r⟩;have e0:=De T.R.fl;have e2:=yV (c+9) T;have e3:=uy (c+9) T;have e4:=λh=>CU (h:=h) N r
 have hd:=ak T.R.r rfl;have hE:=fx T.R.r;have nr:∀l,ao (.ref 2::l)=false:=ko 2
 have nr5:∀l,ao (.ref (n+12)::l)=false:=ko (n+12)
 have ad:∀h,A3 h (.int bW) (.int 1)=some (.int (bW+1)):=λh=>rfl
 by_cases yY:∃o,r=.jV o
 ·obtain⟨o,rfl⟩:=yY;have hv1:=v1 rfl;subst hv1;have q1:=NK (c+7) (N:=N) (r:=.jV o) hs ho;have nq:ao [bK N (.jV o),.lst (iy V (bX (.jV o)))]=true:=by simp only[ao,uq,rD (Br _ _),pW]
  have q2:=Dc (IU V (.jV o));have q3:=λρ=>RP (ρ:=ρ) (R:=[.int (opV V o)]) R1.sd (by rw[aT];show _+1<=_;lia)
  have hd1:=ak R1.r rfl;have hd4:=ak R1.sd rfl;have sdE:bE.map PV.int++[.int (opV V o)]=(bE++uz V (.jV o)).map .int:=by rw[eV];rfl
  rw[sdE]at q3;have R2:=cF.WN R1 (bE++uz V (.jV o));obtain⟨h2,hh2⟩:∃h2,h2=h1.set 5 ⟨.lst,(bE++uz V (.jV o)).map .int⟩:=⟨_,rfl⟩
  rw[<-hh2]at R2;have c2:Ch h1 h2 [5]:=by rw[hh2];exact Ch.set _
  have b2:=iV.ch b1 c2 (by simp <;> lia)
  have T2:Bp h2 N F fs bW (bE++uz V (.jV o)) n r0 A' (.jV o):=⟨R2,b2,T.r⟩;have q4:=yW (c+6) (V:=V) (found:=.lst (iy V (bX (.jV o)))) T2 hs ho (λ⟨_,_,_,z⟩=>by cases z) (λz=>by cases z)
  have q5:=λρ=>Dd (ρ:=ρ) (x:=(rQ V r0 (.jV o):Int)) b2.f
  have b3:=iV.row b2 (rQ V r0 (.jV o));obtain⟨h3,Qh⟩:∃h3,h3=h2.set (n+12) (pf 0 n (rQ V r0 (.jV o):Int)):=⟨_,rfl⟩
  have c3:Ch h2 h3 [n+12]:=by rw[Qh];exact Ch.set _
  rw[<-Qh]at q5 b3;have R3:zi h3 N F (fs++[.ref (n+12)]) bW (bE++uz V (.jV o)):=R2.ch c3 (by simp <;> lia)
  have q6:=λρ=>wX (ρ:=ρ) (y:=bW+1) R3.r
  have q7:=jW R3.r;have q8:=wY R3.r;have hd3:=ak R3.r rfl;have R4:=cF.nR R3 (bW+1);have c4:=Ch.set (h:=h3) (n:=2) (Jx (.au [fdP N F]) 0 3 (.lst [D9 N F]) 4 5 (bW+1));have oR:=fx R1.r;have IE:=fx R2.r;refine⟨_,?_,R4,iV.ch b3 c4 (by simp <;> lia),((w1.ch c2 (by simp)).ch c3 (by simp <;> lia)).ch c4 (by simp)⟩
  ·rw[lr];rw[<-hh2]at q3;simp only[↓bM,e0,e1,e2,e3,e4,hd,hE,nr,nr5,ad,q1,nq,q2,q3,q4,q5,q6,q7,q8,hd1,hd4,hd3,oR,IE,aW,aU,bT,bQ]
 ·have w1':∀h,mQ h (.str (Jw r)) (.str "call")=some (.bl false):=λh=>by cases r<;>rfl
  have w2:∀h,mQ h (.str (Jw r)) (.str "give")=some (.bl false):=λh=>by cases r<;>first | rfl | exact absurd rfl hg
  have w3:∀h,mQ h (.str (Jw r)) (.str "say")=some (.bl false):=λh=>by cases r<;>first | rfl | exact absurd ⟨_,rfl⟩ yY
  have sd0:uz V r=[]:=by cases r<;>first | rfl | exact absurd ⟨_,rfl⟩ yY
  rw[sd0,c6];have q4:=yW (c+6) (V:=V) (found:=v) T1 hs ho (by
   rintro⟨o,p,k,z⟩
   subst z;exact v1 rfl) hg
  have q5:=λρ=>Dd (ρ:=ρ) (x:=(rQ V r0 r:Int)) b1.f
  have b3:=iV.row b1 (rQ V r0 r);obtain⟨h3,Qh⟩:∃h3,h3=h1.set (n+12) (pf 0 n (rQ V r0 r:Int)):=⟨_,rfl⟩
  have c3:Ch h1 h3 [n+12]:=by rw[Qh];exact Ch.set _
  rw[<-Qh]at q5 b3;have R3:zi h3 N F (fs++[.ref (n+12)]) bW bE:=R1.ch c3 (by simp <;> lia)
  have q6:=λρ=>wX (ρ:=ρ) (y:=bW+1) R3.r
  have q7:=jW R3.r;have q8:=wY R3.r;have R4:=cF.nR R3 (bW+1);have c4:=Ch.set (h:=h3) (n:=2) (Jx (.au [fdP N F]) 0 3 (.lst [D9 N F]) 4 5 (bW+1));have oR:=fx R1.r;refine⟨_,?_,R4,iV.ch b3 c4 (by simp <;> lia),(w1.ch c3 (by simp <;> lia)).ch c4 (by simp)⟩
  ·rw[lr];simp only[↓bM,e0,e1,e2,e3,e4,hd,hE,nr,nr5,ad,w1',w2,w3,q4,q5,q6,q7,q8,oR,aW,aU,bT,bQ]
end bI
set_option maxHeartbeats 4000000
namespace bI
open PySem L2 L2.U
noncomputable abbrev Jz(m:Int)(p v:PV):aj:=⟨.ins "Box" ["number","pile","value"],[.int m,p,v]⟩
theorem EK{h:List aj}{i:Nat}{m:Int}{p v w:PV}{ρ:List (Option PV)}(e:h[i]?=some (Jz m p v)):ek eL eM "pile" (.ref i) w ⟨ρ,h⟩=some ⟨ρ,h.set i (Jz m w v)⟩:=by
 rw[eA e (by kernel_rfl)]
 rfl
theorem NL(c:CT){fi d gi:Nat}{j r t:Int}{Q:List PV}{x2:Option PV}:∀(X:List Nat) (g:List aj) (n:Nat) (x4:Option PV),Wd g (n+X.length)->g[fi]?=some (pf j d r)->g[gi]?=some (Jv Q t)->(∀x∈X,∃m p v,g[x]?=some (Jz m p v)) ->
  ∃g' y4,gj (dh 4) (dP c) (X.map .ref) ⟨[some (.ref 0),some (.ref fi),x2,some (.ref gi),x4],g⟩=some (.ok .nx,⟨[some (.ref 0),some (.ref fi),x2,some (.ref gi),y4],g'⟩)/\Ch g g' (1::X)/\Wd g' n/\(∀(i:Nat) (m:Int) (p v:PV),g[i]?=some (Jz m p v)->∃p',g'[i]?=some (Jz m p' v))
 | [],g,n,x4,W,_,_,_=>⟨g,x4,rfl,Ch.refl _ _,W,λi m p v e=>⟨p,e⟩⟩
 | x::X,g,n,x4,W,hf,hg,hx=>by
  rw[cq]at W;obtain⟨m,p,v,bx⟩:=hx x (by simp)
  obtain⟨nb,nt,_,h0,_,_⟩:=id W;obtain⟨es,h1,hl,W1⟩:=Wd.add (v:=.au [.int j,.int r,.str "gone",.int m,.int t,.int (-1)]) (W.mono (k':=(n+X.length)+1) (by lia))
  have ap:=λρ v=>fg (ρ:=ρ) (v:=v) h1 hl
  obtain⟨g1,n8⟩:∃g1,g1=g.set 1 ⟨.lst,es++[.au [.int j,.int r,.str "gone",.int m,.int t,.int (-1)]]⟩:=⟨_,rfl⟩
  have ap:∀ρ,fu (dN fw) (.ref 1) [.au [.int j,.int r,.str "gone",.int m,.int t,.int (-1)]] ⟨ρ,g⟩=some (.ok .aL,⟨ρ,g1⟩):=λρ=>by rw[n8];exact ap ρ _
  rw[<-n8]at W1;have c1:Ch g g1 [1]:=by rw[n8];exact Ch.set _
  have SU:∀{i:Nat} {cc:aj},g[i]?=some cc->(∀l,cc≠⟨.lst,l⟩)->i∉[1]:=λe n=>by
   rw[bh];exact dS e h1 (n _)
  have WO:=c1.get bx (SU bx λl z=>by cases z)
  have gp:=λρ=>EK (ρ:=ρ) (w:=.lst []) WO
  obtain⟨g2,xb⟩:∃g2,g2=g1.set x (Jz m (.lst []) v):=⟨_,rfl⟩
  rw[<-xb]at gp;have c2:Ch g1 g2 [x]:=by rw[xb];exact Ch.set _
  have xf:fi≠x:=dS (c1.get hf (SU hf λl z=>by cases z)) WO (by intro z;cases z)
  have xg:gi≠x:=dS (c1.get hg (SU hg λl z=>by cases z)) WO (by intro z;cases z)
  have x0:0≠x:=dS h0 bx (by intro z;cases z)
  have x1:1≠x:=dS h1 bx (by intro z;cases z)
  have k2:∀i m' p' v',g[i]?=some (Jz m' p' v')->∃q,g2[i]?=some (Jz m' q v'):=λi m' p' v' e=>by
   have e1:=c1.get e (SU e λl z=>by cases z)
   by_cases hi:x=i
   ·subst hi;rw[WO]at e1;cases e1;exact⟨_,by rw[xb];exact cC WO⟩
   ·exact⟨p',by rw[xb,bY hi];exact e1⟩
  obtain⟨g',y4,e3,c3,w3,k3⟩:=NL c (j:=j) (r:=r) (d:=d) (t:=t) (Q:=Q) (x2:=x2) X g2 n (some (.ref x)) (W1.ch c2 (by simp;exact⟨x0,x1⟩)) (c2.get (c1.get hf (SU hf λl z=>by cases z)) (by simp;exact xf)) (c2.get (c1.get hg (SU hg λl z=>by cases z)) (by simp;exact xg)) (λy hy=>by
   obtain⟨m',p',v',e⟩:=hx y (by simp[hy])
   obtain⟨q,e'⟩:=k2 _ _ _ _ e;exact⟨m',q,v',e'⟩)
  have d0:=ak h0 rfl;have d1:=ak h1 rfl;have df:=ak hf rfl;have dg:=ak hg rfl;have db:=ak bx rfl;have b1:dP c ⟨[some (.ref 0),some (.ref fi),x2,some (.ref gi),some (.ref x)],g⟩=some (.ok .nx,⟨[some (.ref 0),some (.ref fi),x2,some (.ref gi),some (.ref x)],g2⟩):=by
   refine aY ?_
   delta dP gy
   simp only[↓fA,d0,d1,df,dg,db,ap,gp]
  refine⟨g',y4,?_,?_,w3,λi m' p' v' e=>?_⟩
  ·rw[aP];exact fC (s1:=⟨[some (.ref 0),some (.ref fi),x2,some (.ref gi),some (.ref x)],g⟩) rfl b1 e3
  ·refine((c1.mono (by simp)).tr c2 (by simp)).tr c3 (λk hk _=>?_)
   simp only[aG]at hk ⊢;rcases hk with rfl | hk
   ·exact .inl rfl
   ·exact .inr (.inr hk)
  ·obtain⟨q,e'⟩:=k2 _ _ _ _ e;exact k3 _ _ _ _ e'
noncomputable def Mr:List (Nat×List Nat)->List Nat
 | []=>[]
 | e::G=>e.2++Mr G
theorem IW(c:CT){fi d:Nat}{j r:Int}{x2:Option PV}:∀(Gs:List (Nat×List Nat)) (g:List aj) (n:Nat) (x3 x4:Option PV),Wd g (n+(Mr Gs).length)->g[fi]?=some (pf j d r)->(∀e∈Gs,(∃t,g[e.1]?=some (Jv (e.2.map .ref) t))/\∀x∈e.2,∃m p v,g[x]?=some (Jz m p v)) ->
  ∃g' y3 y4,gj (dh 3) (dQ c) (Gs.map λe=>.ref e.1) ⟨[some (.ref 0),some (.ref fi),x2,x3,x4],g⟩=some (.ok .nx,⟨[some (.ref 0),some (.ref fi),x2,y3,y4],g'⟩)/\Ch g g' (1::Mr Gs)/\Wd g' n
 | [],g,n,x3,x4,W,_,_=>⟨g,x3,x4,rfl,Ch.refl _ _,W⟩
 | e::Gs,g,n,x3,x4,W,hf,hG=>by
  obtain⟨⟨t,ht⟩,hx⟩:=hG e (by simp)
  have hb:Mr (e::Gs)=e.2++Mr Gs:=rfl;rw[hb,bB]at W;obtain⟨g1,y4,e1,c1,w1,k1⟩:=NL c (x2:=x2) e.2 g (n+(Mr Gs).length) x4 (W.mono (by lia)) hf ht hx
  obtain⟨es,h1⟩:=W.l1;have no:∀{i:Nat} {cc:aj},g[i]?=some cc->(∀l,cc≠⟨.lst,l⟩)->(∀m p v,cc≠Jz m p v)->i∉1::e.2:=λ{i cc} ei n1 n2 z=>by
   rcases aG.mp z with rfl | z
   ·rw[h1]at ei;exact n1 _ (aZ ei).symm
   ·obtain⟨m,p,v,ex⟩:=hx _ z;rw[ei]at ex;exact n2 m p v (aZ ex)
  obtain⟨g',y3,y4',e2,c2,w2⟩:=IW c (x2:=x2) Gs g1 n (some (.ref e.1)) y4 w1 (c1.get hf (no hf (λl z=>by cases z) λm p v z=>by cases z)) (λe' he'=>by
   obtain⟨⟨t',ht'⟩,AG⟩:=hG e' (by simp[he'])
   refine⟨⟨t',c1.get ht' (no ht' (λl z=>by cases z) λm p v z=>by cases z)⟩,λx hx=>?_⟩
   obtain⟨m,p,v,ex⟩:=AG x hx;obtain⟨p',ep⟩:=k1 _ _ _ _ ex;exact⟨m,p',v,ep⟩)
  have dg:=ak ht rfl;refine⟨g',y3,y4',?_,?_,w2⟩
  ·rw[aP]
   revert e1
   delta dP gy
   intro e1;refine fC (s1:=⟨[some (.ref 0),some (.ref fi),x2,some (.ref e.1),x4],g⟩) rfl (?_:dQ c _=some (.ok .nx,⟨[some (.ref 0),some (.ref fi),x2,some (.ref e.1),y4],g1⟩)) e2;refine aY ?_
   delta dQ gy
   simp only[↓fA,dg,e1]
  ·rw[hb];refine(c1.mono ?_).tr c2 ?_
   ·intro m hm;simp only[aG,cH]at hm ⊢;rcases hm with hm | hm
    ·exact .inl hm
    ·exact .inr (.inl hm)
   ·intro m hm _;simp only[aG,cH]at hm ⊢;rcases hm with hm | hm
    ·exact .inl hm
    ·exact .inr (.inr hm)
end bI
set_option maxHeartbeats 4000000
namespace bI
open PySem L2 L2.U
variable {h:List aj} {N:Nm} {F:List Rw} {fs:List PV} {bW:Int} {bE:List Int} {n r0:Nat} {A:Ra} {r:Rw}
noncomputable def EL:List N5:=[.a,.b,.c,.d,.e]
theorem Bu(c:Nat)(K:bt N)(T:Bp h N F fs bW bE n r0 A r):run aM (c+2) "owned_by" [.ref 2,.ref (n+12)] h=some (.ok (.lst (EL.map λx=>.ref (RF n x))),h):=by
 have e1:=ak T.R.r rfl;have e2:=ak T.B.f rfl;have e3:∀h,bu h (.au [fdP N F]) (.int 0)=some (fdP N F):=λh=>rfl
 have e5:=g9 c N;have hE:=fx T.R.r;have l3:∀a b d e f:PV,[a,b,d,e,f].length<=4000000:=λ_ _ _ _ _=>by simp
 have ixh:=λx=>lz T.B.d (RG K n A x)
 have i1:∀h,bu h (fdP N F) (.int 1)=some (.au [sS N .a]):=λh=>rfl
 have i3:∀h,bu h (fdP N F) (.int 3)=some (.au [sS N .b,sS N .c,sS N .d,sS N .e]):=λh=>rfl
 rw[wD];simp only[↓bM,e1,e2,e3,e5,i1,i3,hE,l3,ixh,yM,ao,noRef,bT,bQ,pW];rfl
def SV(n:Nat)(A:Ra):List (Nat×List Nat):=EL.map λx=>(RF n x,(gT n A x).map (·.1))
theorem RQ(n:Nat)(A:Ra):(Mr (SV n A)).length=6/\∀m∈Mr (SV n A),m∈yX n:=by
 simp[Mr,SV,EL,gT,yX]
theorem Ms(c:Nat)(K:bt N){b:Nat}(T:Bp h N F fs bW bE n r0 A .dr)(W:Wd h (b+6)):∃h',run aM (c+7) "given_back" [.ref 2,.ref (n+12),bK N .dr] h=some (.ok .aL,h')/\Ch h h' (yX n)/\Wd h' b:=by
 have go:∀(g:List aj),Ch h g [1]->Wd g (b+6)->∃g',run aM (c+6) "Boxes.let_go" [.ref 0,.ref (n+12),.lst (EL.map λx=>.ref (RF n x))] g=some (.ok .aL,g')/\Ch g g' (yX n)/\Wd g' b:=λg cg wg=>by
  have Bg:=T.B.SS W.l1 cg;have⟨bl,bm⟩:=RQ n A;obtain⟨g',y3,y4,e1,c1,w1⟩:=IW (run aM (c+5)) (x2:=some (.lst (EL.map λx=>.ref (RF n x)))) (SV n A) g b none none (by rw[bl];exact wg) Bg.f (λe he=>by
   obtain⟨x,_,rfl⟩:=bZ.mp he;obtain⟨t,a1,a2⟩:=Bg.p _ (nP (RG K n A x));refine⟨⟨t,?_⟩,λi hi=>?_⟩
   ·have a1:g[RF n x]?=some (Jv (ly (gT n A x)) t):=a1;rw[show((gT n A x).map (·.1)).map PV.ref=ly (gT n A x) by simp[ly]]
    exact a1
   ·obtain⟨y,hy,rfl⟩:=bZ.mp hi;obtain⟨m,hm⟩:=a2 y hy;exact⟨m,_,_,hm⟩)
  revert e1
  rw[show(SV n A).map (λe=>PV.ref e.1)=EL.map λx=>.ref (RF n x) by simp[SV]]
  delta dQ gy
  intro e1;refine⟨g',?_,c1.mono (λm hm=>?_),w1⟩
  ·rw[nN];simp only[↓bM,e1]
  ·rcases aG.mp hm with rfl | hm
   ·simp[yX]
   ·exact bm m hm
 have e1:=uy (c+5) T;have e4b:=λL=>W.mt L "let_go" (by kernel_rfl)
 have hd:=ak T.R.r rfl;have hE:=fx T.R.r;have nr:∀l,ao (.ref 2::l)=false:=ko 2
 obtain⟨g',e3,c3,w3⟩:=go h (Ch.refl _ _) W;have e2:=Bu (c+4) K T;refine⟨g',?_,c3,w3⟩;rw[rm];simp only[↓bM,e1,e2,e3,e4b,hd,hE,nr,aW,aU]
theorem pop_at{h:List aj}{i:Nat}{fs:List PV}{p:PV}{ρ:List (Option PV)}(e:h[i]?=some ⟨.lst,fs++[p]⟩):fu qV (.ref i) [] ⟨ρ,h⟩=some (.ok p,⟨ρ,h.set i ⟨.lst,fs⟩⟩):=by
 show((jf h (.ref i)).bind λc=>(qV c.2 []).map λr=>_)=_
 rw[dy e rfl];show((((fs++[p])[(fs++[p]).length-1]?).map λq=>((⟨.lst,(fs++[p]).dropLast⟩:aj),q)).map λr=>_)=_
 rw[show(fs++[p])[(fs++[p]).length-1]?=some p by simp,List.dropLast_concat]
 rfl
theorem wZ{h:List aj}{i:Nat}{fs:List PV}(e:h[i]?=some ⟨.lst,fs⟩):ou h (.ref i)=some (!fs.isEmpty):=by
 have d:=ak e rfl;simp only[ou,d]
theorem RR{n:Nat}(hn:6<=n):2∉yX n/\3∉yX n/\4∉yX n/\5∉yX n:=by simp[yX];omega
theorem cF.fl'(hR:zi h N F fs bW bE)(gs:List PV):zi (h.set 4 ⟨.lst,gs⟩) N F gs bW bE :=
 ⟨by rw[bY (by decide)];exact hR.r,by rw[bY (by decide)];exact hR.nu,cC hR.fl,by rw[bY (by decide)];exact hR.sd⟩
theorem yZ(c:Nat)(K:bt N){b:Nat}(T:Bp h N F [] bW bE n r0 A .dr)(hn:6<=n)(W:Wd h (b+6)) :
  ∃h',run aM (c+11) "do_row" [.ref 2] h=some (.ok .aL,h')/\zi h' N F [] (bW+1) bE/\Wd h' b:=by
 have e0:=De T.R.fl;have e2:=yV (c+9) T;have e4:∀h,bu h (bK N .dr) (.int 0)=some (.str "give"):=λh=>rfl
 obtain⟨g,e1,c1,w1⟩:=Ms (c+2) K T W;have Rg:=T.R.ch c1 (RR hn);have hd:=ak T.R.r rfl;have hdg:=ak Rg.r rfl;have hd3:=ak Rg.fl rfl;have hE:=fx T.R.r;have nr:∀l,ao (.ref 2::l)=false:=ko 2
 have ad:∀h,A3 h (.int bW) (.int 1)=some (.int (bW+1)):=λh=>rfl
 have p1:=λρ=>pop_at (ρ:=ρ) Rg.fl
 have R1:=cF.fl' Rg [];obtain⟨h1,hh1⟩:∃h1,h1=g.set 4 ⟨.lst,[]⟩:=⟨_,rfl⟩
 rw[<-hh1]at p1 R1;have hd1:=ak R1.r rfl;have hd2:=ak R1.fl rfl;have q6:=λρ=>wX (ρ:=ρ) (y:=bW+1) R1.r
 have q7:=jW R1.r;have q8:=wY R1.r;have g1:run aM (c+10) "do_give" [.ref 2,.ref (n+12),bK N .dr] h=some (.ok .aL,h1):=by
  rw[yE];have tr:ou h1 (.ref 4)=some false:=wZ R1.fl;simp only[↓bM,e1,p1,hd,hdg,hd1,hd2,hd3,hE,nr,tr,aW,aU]
 have c4:=Ch.set (h:=h1) (n:=2) (Jx (.au [fdP N F]) 0 3 (.lst [D9 N F]) 4 5 (bW+1));refine⟨_,?_,cF.nR R1 (bW+1),((show Wd h1 b by rw[hh1];exact w1.ch (Ch.set _) (by simp))).ch c4 (by simp)⟩
 rw[lr];simp only[↓bM,e0,e2,e4,g1,hd,hE,nr,ad,q6,q7,q8,aW,aU]
end bI
set_option maxHeartbeats 4000000
namespace bI
open PySem L2 L2.U
variable {h:List aj} {N:Nm} {F:List Rw} {fs:List PV} {bW:Int} {bE:List Int} {n r0:Nat} {r:Rw}
def oT(m:Nat->Bool)(V:Vs):Ra:=⟨.int V.a,if m 0=true then .int V.b else .aL,if m 1=true then stP V.c else .aL,if m 2=true then .int V.d else .aL,if m 3=true then .int V.n else .aL,if m 4=true then stP V.s else .aL⟩
def mkS(t:Nat):Nat->Nat->Bool
 | 0=>λ_=>false
 | i+1=>λj=>j==(t+i)%5 || mkS t i j
def WQ(t i:Nat)(V:Vs):Ra:=oT (mkS t i) V
inductive sU:Nat->Rw->Prop where
 | b (x:Int) (h:Bd x):sU 0 (.put .b (.num x))
 | c (x:Int) (h:Bd x):sU 1 (.fill .c (.num x))
 | d (x:Int) (h:Bd x):sU 2 (.put .d (.num x))
 | n:sU 3 (.put .n (.sp .a))
 | s:sU 4 (.fill .s (.sp .a))
theorem Bv(c:Nat)(K:bt N){b i:Nat}{V:Vs}{m:Nat->Bool}(hi:sU i r)(T:Bp h N F fs bW bE n r0 (oT m V) r)(W:Wd h (b+12))(hz:Vz N V)(ha:Bd V.a):lD c h N n r0 b (oT (λj=>j==i || m j) (dC N V r)) V r:=by
 have go:∀s,xj r=some s->(∀a∈iz N (bX r)++sv N s,E8 (Hn N n (oT m V)) a)->(iz N (bX r)++sv N s).map (λa=>cS (aF (Hn N n (oT m V)) a))=iy V (bX r)++E6 V s->(∀x,s≠.i x)->(∀x,s≠.j x)->(∀o∈bX r,Bj V o/\Bd (opV V o))->fj (oT m V) (SQ N V (Bn V r) s) s=oT (λj=>j==i || m j) (dC N V r)->Mo V r s->rdR r=false->lD c h N n r0 b (oT (λj=>j==i || m j) (dC N V r)) V r:=λs ht h1 h2 h3 h3' h4 h5 h6 h7=>by
  obtain⟨v,h',e,c1,w1,b1⟩:=IQ c K (k:=r0) (V:=V) T.R T.B W hz ht h6 (λo ho=>(h4 o ho).1) (λo ho=>(h4 o ho).2) h1 h2 ⟨λx hx=>absurd hx (h3 x),λx hx=>absurd hx (h3' x)⟩
  rw[h5]at b1;exact⟨v,h',e,c1.mono (Bs n s),w1,b1,λz=>by rw[h7]at z;cases z⟩
 have num:∀{x:Int},Bd x->∀o∈[Op.num x],Bj V o/\Bd (opV V o):=λhb o ho=>by rw[bh.mp ho];exact⟨trivial,hb⟩
 have pl:aF (Hn N n (oT m V)) (uu N "read" .a)=[(E7 n .a,.int V.a)]:=rN K n (oT m V) .a "read" "";have ra:∀a∈[uu N "read" .a],E8 (Hn N n (oT m V)) a:=λa ha=>by
  rw[bh.mp ha];refine⟨iW K n _ .a "read" "",rfl,(show 1<=2 by decide),λx hx=>?_⟩
  rw[pl,bh]at hx;rw[hx];rfl
 have rv:[cS (aF (Hn N n (oT m V)) (uu N "read" .a))]=[PV.lst [.int V.a]]:=by
  rw[pl];rfl
 have rb:∀o∈[Op.sp .a],Bj V o/\Bd (opV V o):=λo ho=>by
  rw[bh.mp ho];exact⟨trivial,ha⟩
 cases hi with
 | b x hb=>exact go .b rfl (λa ha=>by cases ha) rfl (λ_ z=>by cases z) (λ_ z=>by cases z) (num hb) rfl (.inl ⟨⟨_,rfl⟩,trivial⟩) rfl
 | c x hb=>exact go .c rfl (λa ha=>by cases ha) rfl (λ_ z=>by cases z) (λ_ z=>by cases z) (num hb) rfl (.inr (.inl ⟨⟨_,rfl⟩,.inl rfl⟩)) rfl
 | d x hb=>exact go .d rfl (λa ha=>by cases ha) rfl (λ_ z=>by cases z) (λ_ z=>by cases z) (num hb) rfl (.inl ⟨⟨_,rfl⟩,trivial⟩) rfl
 | n=>exact go .n rfl ra rv (λ_ z=>by cases z) (λ_ z=>by cases z) rb rfl (.inl ⟨⟨_,rfl⟩,trivial⟩) rfl
 | s=>exact go .s rfl ra rv (λ_ z=>by cases z) (λ_ z=>by cases z) rb rfl (.inr (.inl ⟨⟨_,rfl⟩,.inr rfl⟩)) rfl
end bI
set_option maxHeartbeats 4000000
namespace bI
open PySem L2 L2.U
structure oU (N:Nm) (V:Vs):Prop where
 z:Vz N V
 a:Bd V.a
 b:Bd V.b
 d:Bd V.d
 n:Bd V.n
 c:∀x∈V.c,Bd x
 s:∀x∈V.s,Bd x
theorem Df{L:List Int}{i:Nat}(h:∀x∈L,Bd x):Bd (L.getD i 0):=by
 rw[jm];cases e:L[i]? with
 | none=>exact⟨vj _,by decide +kernel⟩
 | some x=>exact h x (uM e)
theorem NM{N:Nm}{V:Vs}(K:oU N V)(s:Sp):Bd (SO V s):=by
 cases s with
 | a=>exact K.a
 | b=>exact K.b
 | d=>exact K.d
 | n=>exact K.n
 | i x=>exact Df K.c
 | j x=>exact Df K.s
 | c=>exact⟨vj _,(by decide +kernel:(0:Int)<sx)⟩
 | s=>exact⟨vj _,(by decide +kernel:(0:Int)<sx)⟩
theorem WR(g:Sg)(x y:Int):Bd (RC g x y):=by
 have m:∀z:Int,Bd (z%sx):=λz=>⟨ju _ (by decide +kernel),pH _ (by decide +kernel)⟩
 cases g<;>exact m _
theorem IX{L:List Int}{i:Nat}{x:Int}(h:∀y∈L,Bd y)(hx:Bd x):∀y∈L.set i x,Bd y:=λy hy=>by
 rcases List.mem_or_eq_of_mem_set hy with z | z
 ·exact h y z
 ·rw[z];exact hx
theorem iX{N:Nm}{V:Vs}{x:Int}(K:oU N V)(hx:Bd x)(s:Sp):oU N (wV N V x s):=by
 cases s with
 | a=>exact⟨⟨K.z.c,K.z.s⟩,hx,K.b,K.d,K.n,K.c,K.s⟩
 | b=>exact⟨⟨K.z.c,K.z.s⟩,K.a,hx,K.d,K.n,K.c,K.s⟩
 | d=>exact⟨⟨K.z.c,K.z.s⟩,K.a,K.b,hx,K.n,K.c,K.s⟩
 | n=>exact⟨⟨K.z.c,K.z.s⟩,K.a,K.b,K.d,hx,K.c,K.s⟩
 | c=>exact⟨⟨mT,K.z.s⟩,K.a,K.b,K.d,K.n,λy hy=>by rw[pC hy];exact hx,K.s⟩
 | s=>exact⟨⟨K.z.c,mT⟩,K.a,K.b,K.d,K.n,K.c,λy hy=>by rw[pC hy];exact hx⟩
 | i x=>exact⟨⟨(gD).trans K.z.c,K.z.s⟩,K.a,K.b,K.d,K.n,IX K.c hx,K.s⟩
 | j x=>exact⟨⟨K.z.c,(gD).trans K.z.s⟩,K.a,K.b,K.d,K.n,K.c,IX K.s hx⟩
def RS(N:Nm):Rw->Prop
 | .dR s t=>(EI s=true/\EI t=true)\/(IS s=true/\IS t=true/\NG N s=NG N t)
 | _=>True
theorem WS{N:Nm}{V:Vs}(K:oU N V){t:Sp}(h:IS t=true):(gv V t).length=NG N t/\∀x∈gv V t,Bd x:=by
 cases t with
 | c=>exact⟨K.z.c,K.c⟩
 | s=>exact⟨K.z.s,K.s⟩
 | _=>exact absurd h cw
theorem Dg{N:Nm}{V:Vs}{r:Rw}(K:oU N V)(ok:rR N V r)(cp:RS N r):oU N (dC N V r):=by
 cases r with
 | put s o=>exact iX K (ok.o o (by simp[bX])).2 s
 | fill s o=>exact iX K (ok.o o (by simp[bX])).2 s
 | set s g o p=>exact iX K (WR g _ _) s
 | dR s t =>
  rcases cp with⟨h1,h2⟩ | ⟨h1,h2,h3⟩
  ·have hx:=NM K t;cases s with
   | a=>exact iX K hx .a
   | b=>exact iX K hx .b
   | d=>exact iX K hx .d
   | n=>exact iX K hx .n
   | _=>exact absurd h1 cw
  ·obtain⟨l,hb⟩:=WS K h2;cases s with
   | c=>exact⟨⟨l.trans h3.symm,K.z.s⟩,K.a,K.b,K.d,K.n,hb,K.s⟩
   | s=>exact⟨⟨K.z.c,l.trans h3.symm⟩,K.a,K.b,K.d,K.n,K.c,hb⟩
   | _=>exact absurd h1 cw
 | _=>exact K
structure oH (N:Nm) (F:List Rw):Prop where
 ini:∃t,t<5/\∀i,i<5->∃r,F[i]?=some r/\sU ((t+i)%5) r
 row:∀i r,F[i]?=some r->r≠.dr->(∀V,oU N V->rR N V r)/\RS N r/\∀V,rQ V i r<F.length
structure St (h:List aj) (N:Nm) (F:List Rw) (n bW:Nat) (sd:List Int) (i:Nat) (V:Vs) (b:Nat):Prop where
 R:zi h N F [.ref (n+12)] (bW:Int) sd
 B:iV h N n i (ij V)\/∃t,t<5/\(∀i,i<5->∃r,F[i]?=some r/\sU ((t+i)%5) r)/\i<5/\iV h N n i (WQ t i V)
 W:Wd h b
 V:oU N V
theorem RT(c:Nat){h:List aj}{N:Nm}(K:bt N){F:List Rw}{n bW:Nat}{sd:List Int}{i b:Nat}{V:Vs}{r:Rw}(P:oH N F)(S:St h N F n bW sd i V (b+12))(hr:F[i]?=some r)(hg:r≠.dr)(hn:6<=n)(hs:sd.length<=10000) :
  ∃h',run aM (c+11) "do_row" [.ref 2] h=some (.ok .aL,h')/\St h' N F n (bW+1) (sd++uz V r) (rQ V i r) (dC N V r) b:=by
 obtain⟨ok,cp,_⟩:=P.row i r hr hg;have okV:=ok V S.V;have V':=Dg S.V okV cp;have iJ:∀{A A':Ra},iV h N n i A->lD c h N n i b A' V r->(∀h',iV h' N n (rQ V i r) A'->iV h' N n (rQ V i r) (ij (dC N V r))\/∃t,t<5/\(∀i,i<5->∃r,F[i]?=some r/\sU ((t+i)%5) r)/\rQ V i r<5/\iV h' N n (rQ V i r) (WQ t (rQ V i r) (dC N V r)))->∃h',run aM (c+11) "do_row" [.ref 2] h=some (.ok .aL,h')/\St h' N F n (bW+1) (sd++uz V r) (rQ V i r) (dC N V r) b:=λ{A A'} B ac k=>by
  have T:Bp h N F [] (bW:Int) sd n i A r:=⟨S.R,B,hr⟩;obtain⟨h',e,R',B',W'⟩:=EJ c K T hn S.V.z (S.W.mono (by lia)) (λo ho=>(okV.o o ho).1) hg ac hs
  exact⟨h',e,R',k h' B',W',V'⟩
 rcases S.B with B | ⟨t,ht,AN,h5,B⟩
 ·exact iJ B (Bt c K (⟨S.R,B,hr⟩:Bp h N F [] (bW:Int) sd n i _ r) S.W S.V.z okV) λh' z=>.inl z
 ·obtain⟨r',hr',hi⟩:=AN i h5;cases hr.symm.trans hr';refine iJ B (Bv c K hi (⟨S.R,B,hr⟩:Bp h N F [] (bW:Int) sd n i _ r) S.W S.V.z S.V.a) λh' z=>?_
  have nx:rQ V i r=i+1:=by
   generalize (t+i)%5=k at hi
   cases hi<;>rfl
  rw[nx]at z ⊢;by_cases h4:i+1<5
  ·exact .inr ⟨t,ht,AN,h4,z⟩
  ·have:i=4:=by lia
   subst this;refine .inl ?_;rcases(by lia : t=0\/t=1\/t=2\/t=3\/t=4)with rfl | rfl | rfl | rfl | rfl<;>exact z
end bI
set_option maxHeartbeats 4000000
namespace bI
open PySem L2 L2.U
def runN(N:Nm)(F:List Rw):Nat->Nat->Nat->Vs->List Int->Str×List Int×Nat
 | 0,bW,_,_,sd=>("more",sd,bW)
 | k+1,bW,i,V,sd=>match F[i]? with
  | none=>("more",sd,bW)
  | some .dr=>("done",sd,bW+1)
  | some r=>runN N F k (bW+1) (rQ V i r) (dC N V r) (sd++uz V r)
theorem rS{N:Nm}{F:List Rw}{k bW i:Nat}{V:Vs}{sd:List Int}{r:Rw}(hr:F[i]?=some r)(hg:r≠.dr):runN N F (k+1) bW i V sd=runN N F k (bW+1) (rQ V i r) (dC N V r) (sd++uz V r):=by
 show(match F[i]? with
  | none=>_
  | some .dr=>_
  | some r=>_)=_
 rw[hr];cases r
 case dr=>exact absurd rfl hg
 all_goals rfl
theorem RU{h:List aj}{i:Nat}{fs:List PV}(e:h[i]?=some ⟨.lst,fs⟩):ki h [.ref i]=some (.int (fs.length:Int)):=by
 have d:=ak e rfl;have l:UJ h (.ref i)=some fs.length:=by simp only[UJ,d]
 show(UJ h (.ref i)).map (λn=>PV.int n)=_
 rw[l];rfl
theorem IY(V:Vs)(r:Rw):(uz V r).length<=1:=by cases r<;>simp[uz]
theorem Mt(c:Nat){N:Nm}(K:bt N){F:List Rw}{n:Nat}(P:oH N F)(hn:6<=n){most:Nat}(hm:most<=9000):∀(k bW mK:Nat) (h:List aj) (i:Nat) (V:Vs) (sd:List Int),St h N F n bW sd i V (12*k+6)->i<F.length->bW+k=most->sd.length<=bW->k<mK ->
  ∃h' fl w IZ nR q,runN N F k bW i V sd=(w,IZ,nR)/\zi h' N F fl (nR:Int) IZ/\IZ.length<=most/\(q=dJ.rt (.str w)\/(q=dJ.nx/\w="done")) /\
   kZ (vH Q1) (fO (run aM (c+11))) mK ⟨[some (.ref 2),some (.int (most:Int))],h⟩=some (.ok q,⟨[some (.ref 2),some (.int (most:Int))],h'⟩):=by
 intro k;induction k with
 | zero =>
  intro bW mK h i V sd S hi hc hs hf;obtain⟨mK,rfl⟩:∃m,mK=m+1:=⟨mK-1,by lia⟩
  have hd:=ak S.R.r rfl;have tr:ou h (.ref 4)=some true:=wZ S.R.fl;have g1:∀h,UD h (.int (bW:Int)) (.int (most:Int))=some (.bl true):=λh=>by
   show some (PV.bl (decide ((bW:Int)>=(most:Int))))=_;rw[dW (by lia)]
  refine⟨h,_,"more",sd,bW,_,rfl,S.R,by lia,.inl rfl,?_⟩
  have XR:vH Q1 ⟨[some (.ref 2),some (.int (most:Int))],h⟩=some (.ok true,⟨[some (.ref 2),some (.int (most:Int))],h⟩):=by
   refine aY ?_;simp only[↓fA,hd,tr]
  refine eB XR ?_;rw[if_pos rfl];refine eB (show fO (run aM (c+11)) _=some (.ok (.rt (.str "more")),⟨[some (.ref 2),some (.int (most:Int))],h⟩)from ?_) rfl
  refine aY ?_
  delta fO gy
  simp only[↓fA,hd,g1]
 | succ k ih =>
  intro bW mK h i V sd S hi hc hs hf;obtain⟨mK,rfl⟩:∃m,mK=m+1:=⟨mK-1,by lia⟩
  have hd:=ak S.R.r rfl;have tr:ou h (.ref 4)=some true:=wZ S.R.fl;have g1:∀h,UD h (.int (bW:Int)) (.int (most:Int))=some (.bl false):=λh=>by
   show some (PV.bl (decide ((bW:Int)>=(most:Int))))=_;rw[cZ (by lia)]
  obtain⟨r,hr⟩:∃r,F[i]?=some r:=⟨_,dU hi⟩
  have e3:ki h [.ref 4]=some (.int 1):=RU S.R.fl;have e5:∀h,mQ h (.int 1) (.int 12)=some (.bl false):=λh=>rfl
  have hE:=fx S.R.r;have nr:∀l,ao (.ref 2::l)=false:=ko 2
  have XR:vH Q1 ⟨[some (.ref 2),some (.int (most:Int))],h⟩=some (.ok true,⟨[some (.ref 2),some (.int (most:Int))],h⟩):=by
   refine aY ?_;simp only[↓fA,hd,tr]
  have bod:∀h',run aM (c+11) "do_row" [.ref 2] h=some (.ok .aL,h')->fO (run aM (c+11)) ⟨[some (.ref 2),some (.int (most:Int))],h⟩=some (.ok .nx,⟨[some (.ref 2),some (.int (most:Int))],h'⟩):=λh' x1=>by
   refine aY ?_
   delta fO gy
   simp only[↓fA,hd,g1,e3,e5,x1,hE,nr,aW,aU]
  by_cases hg:r=.dr
  ·subst hg;obtain⟨A,B⟩:∃A,iV h N n i A:=by
    rcases S.B with B | ⟨_,_,_,_,B⟩
    ·exact⟨_,B⟩
    ·exact⟨_,B⟩
   obtain⟨h',x1,R',W'⟩:=yZ c K (b:=0) (⟨S.R,B,hr⟩:Bp h N F [] (bW:Int) sd n i A .dr) hn (S.W.mono (by lia))
   have aaP:runN N F (k+1) bW i V sd=(("done":Str),sd,bW+1):=by
    show(match F[i]? with
     | none=>_
     | some .dr=>_
     | some r=>_)=_
    rw[hr]
   have EW:=ak R'.r rfl;have tr':ou h' (.ref 4)=some false:=wZ R'.fl;have aaQ:vH Q1 ⟨[some (.ref 2),some (.int (most:Int))],h'⟩=some (.ok false,⟨[some (.ref 2),some (.int (most:Int))],h'⟩):=by
    refine aY ?_;simp only[↓fA,EW,tr']
   obtain⟨mK,rfl⟩:∃m,mK=m+1:=⟨mK-1,by lia⟩
   refine⟨h',_,"done",sd,bW+1,.nx,aaP,R',by lia,.inr ⟨rfl,rfl⟩,?_⟩
   refine eB XR ?_;rw[if_pos rfl];refine eB (bod h' x1) ?_;exact eB aaQ rfl
  ·obtain⟨h',x1,S'⟩:=RT c K (b:=12*k+6) P (by have:=S;rw[show 12*(k+1)+6=12*k+6+12 by lia]at this;exact this) hr hg hn (by lia)
   have hsl:=IY V r;obtain⟨h2,fl,w,IZ,nR,q,y1,y2,y3,y4,y5⟩:=ih (bW+1) mK h' _ _ _ S' ((P.row i r hr hg).2.2 V) (by lia) (by rw[bB];lia) (by lia)
   refine⟨h2,fl,w,IZ,nR,q,by rw[rS hr hg];exact y1,y2,y3,y4,?_⟩
   refine eB XR ?_;rw[if_pos rfl];exact eB (bod h' x1) y5
end bI
set_option maxHeartbeats 4000000
namespace bI
open PySem L2 L2.U
theorem I0(c:Nat){N:Nm}(K:bt N){F:List Rw}{n:Nat}(P:oH N F)(hn:6<=n){most:Nat}(hm:most<=9000){h:List aj}{V:Vs}(S:St h N F n 0 [] 0 V (12*most+6))(h0:0<F.length) :
  ∃h' fl w IZ nR,runN N F most 0 0 V []=(w,IZ,nR)/\zi h' N F fl (nR:Int) IZ/\IZ.length<=most/\run aM (c+12) "run_on" [.ref 2,.int (most:Int)] h=some (.ok (.str w),h'):=by
 obtain⟨h',fl,w,IZ,nR,q,y1,y2,y3,y4,y5⟩:=Mt c K P hn hm most 0 8000000 h 0 V [] S h0 (by lia) (by simp) (by lia)
 refine⟨h',fl,w,IZ,nR,y1,y2,y3,?_⟩;rw[Ba]
 delta fO gy at y5
 rcases y4 with rfl | ⟨rfl,rfl⟩
 ·refine wI (st':=⟨[some (.ref 2),some (.int (most:Int))],h'⟩) ?_;exact eB y5 rfl
 ·refine wI (st':=⟨[some (.ref 2),some (.int (most:Int))],h'⟩) ?_;exact eB y5 rfl
theorem WT{a:Str}{v:PV}:Hq [.au [.str a,v]]=some (C4 [(a,v)]):=rfl
theorem rV{f:Str}{ns:List Str}{ps:List PV}{v:PV}{ρ:List (Option PV)}{L:List aj}(hc:(eL.contains "Run"&&eM.contains f&&decide (ns.length<900))=true):ek eL eM f (.ref 2) v ⟨ρ,jk 0 0::⟨.lst,[]⟩::⟨.ins "Run" ns,ps⟩::L⟩=some ⟨ρ,jk 0 0::⟨.lst,[]⟩::⟨.ins "Run" (jg f v ns ps).1,(jg f v ns ps).2⟩::L⟩:=eA (h:=jk 0 0::⟨.lst,[]⟩::⟨.ins "Run" ns,ps⟩::L) rfl hc
theorem RV(c:Nat){N:Nm}(K:bt N)(F:List Rw)(hl:F.length<=100):Ey (run aM (c+14)) "Run" [.ref 2,.au [fdP N F],.ref 0] [jk 0 0,⟨.lst,[]⟩,⟨.ins "Run" [],[]⟩]=some (.ok .aL,[jk 0 0,⟨.lst,[]⟩,Jx (.au [fdP N F]) 0 3 (.lst [D9 N F]) 4 5 0,⟨.eS false [mG N.f],[.int 0]⟩,⟨.lst,[]⟩,⟨.lst,[]⟩]):=by
 obtain⟨p0,h0,a0,b0⟩:=Iz c K F hl;have dd:=λv=>WT (a:=N.f) (v:=v)
 have en:kB 0 [fdP N F]=[.au [.int 0,fdP N F]]:=rfl;have l3:∀a:PV,[a].length<=4000000:=λ_=>by simp
 have i0:∀h,bu h (fdP N F) (.int 0)=some (.str N.f):=λh=>rfl
 have nr:∀(i:Int),ao [PV.au [fdP N F],PV.int i]=true:=λi=>by simp[ao,noRef,rE]
 have t1:∀ρ v L,ek eL eM "program" (.ref 2) v ⟨ρ,jk 0 0::⟨.lst,[]⟩::⟨.ins "Run" [],[]⟩::L⟩=some ⟨ρ,jk 0 0::⟨.lst,[]⟩::⟨.ins "Run" ["program"],[v]⟩::L⟩:=λρ v L=>rV (by kernel_rfl)
 have t2:∀ρ v L a,ek eL eM "world" (.ref 2) v ⟨ρ,jk 0 0::⟨.lst,[]⟩::⟨.ins "Run" ["program"],[a]⟩::L⟩=some ⟨ρ,jk 0 0::⟨.lst,[]⟩::⟨.ins "Run" ["program","world"],[a,v]⟩::L⟩:=λρ v L a=>rV (by kernel_rfl)
 have t3:∀ρ v L a b,ek eL eM "numbers" (.ref 2) v ⟨ρ,jk 0 0::⟨.lst,[]⟩::⟨.ins "Run" ["program","world"],[a,b]⟩::L⟩=some ⟨ρ,jk 0 0::⟨.lst,[]⟩::⟨.ins "Run" ["program","world","numbers"],[a,b,v]⟩::L⟩:=λρ v L a b=>rV (by kernel_rfl)
 have t4:∀ρ v L a b d,ek eL eM "listed" (.ref 2) v ⟨ρ,jk 0 0::⟨.lst,[]⟩::⟨.ins "Run" ["program","world","numbers"],[a,b,d]⟩::L⟩=some ⟨ρ,jk 0 0::⟨.lst,[]⟩::⟨.ins "Run" ["program","world","numbers","listed"],[a,b,d,v]⟩::L⟩:=λρ v L a b d=>rV (by kernel_rfl)
 have t5:∀ρ v L a b d e,ek eL eM "frames" (.ref 2) v ⟨ρ,jk 0 0::⟨.lst,[]⟩::⟨.ins "Run" ["program","world","numbers","listed"],[a,b,d,e]⟩::L⟩=some ⟨ρ,jk 0 0::⟨.lst,[]⟩::⟨.ins "Run" ["program","world","numbers","listed","frames"],[a,b,d,e,v]⟩::L⟩:=λρ v L a b d e=>rV (by kernel_rfl)
 have t6:∀ρ v L a b d e g,ek eL eM "said" (.ref 2) v ⟨ρ,jk 0 0::⟨.lst,[]⟩::⟨.ins "Run" ["program","world","numbers","listed","frames"],[a,b,d,e,g]⟩::L⟩=some ⟨ρ,jk 0 0::⟨.lst,[]⟩::⟨.ins "Run" ["program","world","numbers","listed","frames","said"],[a,b,d,e,g,v]⟩::L⟩:=λρ v L a b d e g=>rV (by kernel_rfl)
 have t7:∀ρ v L a b d e g i,ek eL eM "count" (.ref 2) v ⟨ρ,jk 0 0::⟨.lst,[]⟩::⟨.ins "Run" ["program","world","numbers","listed","frames","said"],[a,b,d,e,g,i]⟩::L⟩=some ⟨ρ,jk 0 0::⟨.lst,[]⟩::⟨.ins "Run" ["program","world","numbers","listed","frames","said","count"],[a,b,d,e,g,i,v]⟩::L⟩:=λρ v L a b d e g i=>rV (by kernel_rfl)
 have rg:xZ [.int 1]=some [.int 0]:=by rfl
 generalize fdP N F=P at *
 have ln:∀h,ki h [.au [P]]=some (.int 1):=λh=>rfl
 rw[Q7];simp only[↓bM,t1,t2,t3,t4,t5,t6,t7,ln,rg,en,dd,l3,i0,nr,a0,b0,bT,bQ];rfl
theorem Ja{f g:Gx dJ}{st s1:b8}{r:Option (Rs dJ×b8)}(h1:f st=some (.ok .nx,s1))(h2:g s1=r):qF f g st=r:=eB h1 h2
noncomputable def sV(N:Nm)(x:Int):Vs:=⟨x,0,List.replicate N.z 0,0,0,List.replicate N.y 0⟩
theorem WU:Bd 0:=⟨vj _,by decide +kernel⟩
theorem Jb(N:Nm){x:Int}(hx:Bd x):oU N (sV N x):=⟨⟨mT,mT⟩,hx,WU,WU,WU,λy hy=>by rw[pC hy];exact WU,λy hy=>by rw[pC hy];exact WU⟩
theorem Mu(c:Nat){N:Nm}(K:bt N){F:List Rw}(hl:F.length<=100)(AN:∃t,t<5/\∀i,i<5->∃r,F[i]?=some r/\sU ((t+i)%5) r){x:Int}(hx:Bd x){most:Nat}(hm:most<=9000) :
  ∃h',run aM (c+15) "run_from_first" [.au [fdP N F],.ref 0,.lst [.int x]] [jk 0 0,⟨.lst,[]⟩]=some (.ok (.ref 2),h')/\St h' N F 7 0 [] 0 (sV N x) (12*most+6):=by
 obtain⟨g,hg⟩:∃g:List aj,g=[jk 0 0,⟨.lst,[]⟩,Jx (.au [fdP N F]) 0 3 (.lst [D9 N F]) 4 5 0,⟨.eS false [mG N.f],[.int 0]⟩,⟨.lst,[]⟩,⟨.lst,[]⟩]:=⟨_,rfl⟩
 have gl:g.length=6:=by rw[hg];rfl
 have R0:zi g N F [] 0 []:=by rw[hg];exact⟨rfl,rfl,rfl,rfl⟩
 have W0:Wd g (12*most+6+10):=by rw[hg];exact⟨0,0,[],rfl,rfl,by show 0+(12*most+6+10)<=3000000;lia⟩
 have e1:Ey (run aM (c+14)) "Run" [.ref [jk 0 0,⟨.lst,[]⟩].length,.au [fdP N F],.ref 0] ([jk 0 0,⟨.lst,[]⟩]++[⟨.ins "Run" [],[]⟩])=some (.ok .aL,g):=by rw[hg];exact RV c K F hl
 have e2:∀h,bu h (.au [fdP N F]) (.int 0)=some (fdP N F):=λh=>rfl
 have e3:∀h,bu h (fdP N F) (.int 1)=some (.au [sS N .a]):=λh=>rfl
 have z1:Qz (.au [sS N .a]) (.lst [.int x])=some [.au [sS N .a,.int x]]:=rfl;have l1:∀a:PV,[a].length<=4000000:=λ_=>by simp
 have R1:zi (g++[C4 [(N.n .a,.lst [.int x])]]) N F [] 0 []:=R0.app _;obtain⟨h',b1,b2,b3,b4,b5,b6⟩:=L7 (c+6) K (n:=12*most+6) R1 (W0.ch (Ch.app g _ []) (by simp)) (g:=6) (va:=x) (es:=[(N.n .a,.lst [.int x])]) (by rw[jl (by lia),gl];rfl) (by show(if mG N.a=mG N.a then _ else _)=_;rw[if_pos rfl]) (by simp)
 have hl7:(g++[C4 [(N.n .a,.lst [.int x])]]).length=7:=by rw[bB,gl];rfl
 rw[hl7]at b2 b3 b6;have hE:(g++[C4 [(N.n .a,.lst [.int x])]]).isEmpty=false:=fx R1.r;have nr:∀l,ao (.ref 2::l)=false:=ko 2
 have bg:run aM (c+14) "begin" [.ref 2,.int 0,.ref 6] (g++[C4 [(N.n .a,.lst [.int x])]])=some (.ok .aL,h'):=b1;obtain⟨t,ht,AN⟩:=AN;refine⟨h',?_,⟨b2,.inr ⟨t,ht,AN,by decide,b3⟩,b4,Jb N hx⟩⟩
 have dd:=λv=>WT (a:=N.n .a) (v:=v)
 generalize fdP N F=P at e1 e2 e3 ⊢
 rw[lq];simp only[↓bM,e1,e2,e3,z1,l1,dd,gl,bg,hE,nr,aW,aU]
end bI
set_option maxHeartbeats 4000000
namespace bI
open PySem L2 L2.U
def EM(N:Nm)(F:List Rw)(most:Nat)(x:Int):PV:=.au [.str (runN N F most 0 0 (sV N x) []).1,.lst ((runN N F most 0 0 (sV N x) []).2.1.map .int),.int ((runN N F most 0 0 (sV N x) []).2.2:Int),.au []]
theorem WV(c:Nat){N:Nm}(K:bt N){F:List Rw}(P:oH N F)(hl:F.length<=100)(h0:0<F.length){x:Int}(hx:Bd x){most:Nat}(hm:most<=9000) :
  ∃p h',run aM (c+16) "run" [.au [fdP N F],.lst [.int x],.int (most:Int)] []=some (.ok p,h')/\iu h' p=some (EM N F most x):=by
 obtain⟨h1,e1,S⟩:=Mu c K hl P.ini hx (most:=most) hm;obtain⟨h2,fl,w,sd,bW,y1,y2,y3,y4⟩:=I0 (c+3) K P (by decide) hm S h0
 unfold EM;rw[y1];have hd:=ak y2.r rfl;have oR:=fx S.R.r;have nr:∀l,ao (.ref 2::l)=false:=ko 2
 refine⟨.au [.str w,.ref 5,.int (bW:Int),.au []],h2,?_,?_⟩
 ·have e1:run aM (c+15) "run_from_first" [.au [fdP N F],.ref ([]:List aj).length,.lst [.int x]] [(⟨.ins "Boxes" ["entries","boxes_made","tags_made"],[.ref (([]:List aj)++[(⟨.ins "Boxes" [],[]⟩:aj)]).length,.int 0,.int 0]⟩:aj),(⟨.lst,[]⟩:aj)]=some (.ok (.ref 2),h1):=e1
  generalize fdP N F=Q at e1 ⊢
  rw[LQ];refine wI (st':=⟨[some (.au [Q]),some (.lst [.int x]),some (.int (most:Int)),some (.ref 2),some (.str w),none,none],h2⟩) ?_;refine Ja (s1:=⟨[some (.au [Q]),some (.lst [.int x]),some (.int (most:Int)),some (.ref 2),none,none,none],h1⟩) ?_ ?_
  ·refine aY ?_;simp only[↓fA,e1]
  ·refine Ja (s1:=⟨[some (.au [Q]),some (.lst [.int x]),some (.int (most:Int)),some (.ref 2),some (.str w),none,none],h2⟩) (NB ?_) ?_
   ·refine aY ?_;simp only[↓fA,y4,oR,nr,aW,aU]
   ·refine aY ?_;simp only[↓fA,hd]
 ·have IE:=fx y2.r;unfold iu;rw[if_neg (by rw[IE];exact cw)]
  have d4:nK h2 3 (.ref 5)=some (.lst (sd.map .int)):=by
   show((h2[5]?).bind λc=>if live c=true then(dD (nK h2 2) c.ps).map (PV.nd c.k)else none)=_
   rw[y2.sd];show(dD (nK h2 2) (sd.map .int)).map (PV.nd Kd.lst)=_;rw[pj (gq (λ_=>rfl) sd)]
   rfl
  show((some (PV.str w)).bind λa=>((nK h2 3 (.ref 5)).bind λb=>((some (PV.int (bW:Int))).bind λd=>(((some (PV.au [])).bind λe=>(some []).map λr=>e::r).map λr=>d::r)).map λr=>b::r).map λr=>a::r).map (PV.nd Kd.au)=_
  rw[d4];rfl
end bI
set_option maxHeartbeats 4000000
namespace bI
open PySem L2 L2.U
noncomputable def kK(N:Nm):Sp->bP×List bP
 | .a=>(.inr N.a,[])
 | .b=>(.inr N.b,[])
 | .c=>(.inr N.c,[])
 | .i _=>(.inr N.c,[])
 | .d=>(.inr N.d,[])
 | .n=>(.inr N.e,[.inl 0])
 | _=>(.inr N.e,[.inl 1])
def Jc:Sp->PV
 | .n=>.au [.int 0]
 | .s=>.au [.int 1]
 | .j _=>.au [.int 1]
 | _=>.au []
def pK(N:Nm)(s:Sp):PV:=.au [.str (N.n s.x),Jc s]
theorem lE(N:Nm)(s:Sp):fV true (pK N s)=some (kK N s):=by cases s<;>rfl
def SW(V:Vs):Sp->PV
 | .a=>.int V.a
 | .b=>.int V.b
 | .d=>.int V.d
 | .n=>.int V.n
 | s=>stP (gv V s)
def Dh(N:Nm)(V:Vs):aj:=⟨.eS true [kK N .a,kK N .b,kK N .c,kK N .d,kK N .n,kK N .s],[.int V.a,.int V.b,stP V.c,.int V.d,.int V.n,stP V.s]⟩
theorem mL{h:List aj}{d:Nat}{N:Nm}(K:bt N){V:Vs}(e:h[d]?=some (Dh N V))(s:Sp):bu h (.ref d) (pK N s)=some (SW V s):=by
 have d1:=ak (k:=.eS true [kK N .a,kK N .b,kK N .c,kK N .d,kK N .n,kK N .s]) (ps:=[.int V.a,.int V.b,stP V.c,.int V.d,.int V.n,stP V.s]) e rfl;have nq:∀{x y:N5} {p q:List bP},x≠y->¬((.inr (N.n x),p):bP×List bP)=(.inr (N.n y),q):=λhx z=>by
  injection z with z1 _
  injection z1 with z2
  exact hx (K.n z2)
 have ab:=λp q=>nq (p:=p) (q:=q) (show N5.a≠.b by decide)
 have ac:=λp q=>nq (p:=p) (q:=q) (show N5.a≠.c by decide)
 have ad:=λp q=>nq (p:=p) (q:=q) (show N5.a≠.d by decide)
 have ae:=λp q=>nq (p:=p) (q:=q) (show N5.a≠.e by decide)
 have bc:=λp q=>nq (p:=p) (q:=q) (show N5.b≠.c by decide)
 have bd:=λp q=>nq (p:=p) (q:=q) (show N5.b≠.d by decide)
 have be:=λp q=>nq (p:=p) (q:=q) (show N5.b≠.e by decide)
 have cd:=λp q=>nq (p:=p) (q:=q) (show N5.c≠.d by decide)
 have ce:=λp q=>nq (p:=p) (q:=q) (show N5.c≠.e by decide)
 have de:=λp q=>nq (p:=p) (q:=q) (show N5.d≠.e by decide)
 have XS:¬((.inr N.e,[.inl 0]):bP×List bP)=(.inr N.e,[.inl 1]):=λz=>by
  injection z with _ z
  injection z with z _
  injection z with z
  cases z
 have go:gZ (kK N s) [kK N .a,kK N .b,kK N .c,kK N .d,kK N .n,kK N .s] [.int V.a,.int V.b,stP V.c,.int V.d,.int V.n,stP V.s]=some (SW V s):=by
  simp only[Nm.n]at ab ac ad ae bc bd be cd ce de;cases s<;>simp only[gZ,kK,ab,ac,ad,ae,bc,bd,be,cd,ce,de,XS,eI,cK,SW,gv]
 simp only[bu,d1,lE];exact go
end bI
set_option maxHeartbeats 4000000
namespace bI
open PySem L2 L2.U
def NN(N:Nm)(A:Ra):aj:=⟨.eS true [kK N .a,kK N .b,kK N .c,kK N .d,kK N .n,kK N .s],[A.a,A.b,A.c,A.d,A.n,A.s]⟩
theorem rW(N:Nm)(V:Vs):Dh N V=NN N (ij V):=rfl
theorem RW{h:List aj}{d:Nat}{N:Nm}(K:bt N){A:Ra}{v:PV}{ρ:List (Option PV)}(e:h[d]?=some (NN N A))(s:Sp):nM (.ref d) (pK N s) v ⟨ρ,h⟩=some ⟨ρ,h.set d (NN N (fj A v s))⟩:=by
 have nq:∀{x y:N5} {p q:List bP},x≠y->¬((.inr (N.n x),p):bP×List bP)=(.inr (N.n y),q):=λhx z=>by
  injection z with z1 _
  injection z1 with z2
  exact hx (K.n z2)
 have ab:=λp q=>nq (p:=p) (q:=q) (show N5.a≠.b by decide)
 have ac:=λp q=>nq (p:=p) (q:=q) (show N5.a≠.c by decide)
 have ad:=λp q=>nq (p:=p) (q:=q) (show N5.a≠.d by decide)
 have ae:=λp q=>nq (p:=p) (q:=q) (show N5.a≠.e by decide)
 have bc:=λp q=>nq (p:=p) (q:=q) (show N5.b≠.c by decide)
 have bd:=λp q=>nq (p:=p) (q:=q) (show N5.b≠.d by decide)
 have be:=λp q=>nq (p:=p) (q:=q) (show N5.b≠.e by decide)
 have cd:=λp q=>nq (p:=p) (q:=q) (show N5.c≠.d by decide)
 have ce:=λp q=>nq (p:=p) (q:=q) (show N5.c≠.e by decide)
 have de:=λp q=>nq (p:=p) (q:=q) (show N5.d≠.e by decide)
 have XS:¬((.inr N.e,[.inl 0]):bP×List bP)=(.inr N.e,[.inl 1]):=λz=>by
  injection z with _ z
  injection z with z _
  injection z with z
  cases z
 have hs:mi (kK N s) [kK N .a,kK N .b,kK N .c,kK N .d,kK N .n,kK N .s]=true:=by
  unfold mi;rw[List.any_eq_true];cases s
  case a=>exact⟨kK N .a,by simp,by simp⟩
  case b=>exact⟨kK N .b,by simp,by simp⟩
  case c=>exact⟨kK N .c,by simp,by simp⟩
  case i x=>exact⟨kK N .c,by simp,by simp[kK]⟩
  case d=>exact⟨kK N .d,by simp,by simp⟩
  case n=>exact⟨kK N .n,by simp,by simp⟩
  case s=>exact⟨kK N .s,by simp,by simp⟩
  case j x=>exact⟨kK N .s,by simp,by simp[kK]⟩
 have go:sJ (kK N s) v [kK N .a,kK N .b,kK N .c,kK N .d,kK N .n,kK N .s] [A.a,A.b,A.c,A.d,A.n,A.s]=[(fj A v s).a,(fj A v s).b,(fj A v s).c,(fj A v s).d,(fj A v s).n,(fj A v s).s]:=by
  have n10:¬((.inr N.e,[.inl 1]):bP×List bP)=(.inr N.e,[.inl 0]):=λz=>XS z.symm
  have ba:=λp q=>nq (p:=p) (q:=q) (show N5.b≠.a by decide)
  have ca:=λp q=>nq (p:=p) (q:=q) (show N5.c≠.a by decide)
  have da:=λp q=>nq (p:=p) (q:=q) (show N5.d≠.a by decide)
  have ea:=λp q=>nq (p:=p) (q:=q) (show N5.e≠.a by decide)
  have cb:=λp q=>nq (p:=p) (q:=q) (show N5.c≠.b by decide)
  have db:=λp q=>nq (p:=p) (q:=q) (show N5.d≠.b by decide)
  have eb:=λp q=>nq (p:=p) (q:=q) (show N5.e≠.b by decide)
  have dc:=λp q=>nq (p:=p) (q:=q) (show N5.d≠.c by decide)
  have ec:=λp q=>nq (p:=p) (q:=q) (show N5.e≠.c by decide)
  have ed:=λp q=>nq (p:=p) (q:=q) (show N5.e≠.d by decide)
  simp only[Nm.n]at ab ac ad ae bc bd be cd ce de ba ca da ea cb db eb dc ec ed;cases s<;>simp only[sJ,qM,kK,ab,ac,ad,ae,bc,bd,be,cd,ce,de,ba,ca,da,ea,cb,db,eb,dc,ec,ed,XS,n10,eI,cK,fj]
 show((jf h (.ref d)).bind λc=>match c.2.k with
  | .lst=>(nF (pK N s)).bind λi=>(DI c.2.ps.length i).map λj=>(⟨ρ,h.set c.1 ⟨.lst,c.2.ps.set j v⟩⟩:b8)
  | .eS t mR=>(fV t (pK N s)).bind λk=>if mR.length<ic then some ⟨ρ,h.set c.1 (iO t k v mR c.2.ps)⟩else none
  | _=>none)=_
 rw[dy e rfl];show((fV true (pK N s)).bind λk=>if [kK N .a,kK N .b,kK N .c,kK N .d,kK N .n,kK N .s].length<ic then some (⟨ρ,h.set d (iO true k v [kK N .a,kK N .b,kK N .c,kK N .d,kK N .n,kK N .s] [A.a,A.b,A.c,A.d,A.n,A.s])⟩:b8)else none)=_
 rw[lE];show(if [kK N .a,kK N .b,kK N .c,kK N .d,kK N .n,kK N .s].length<ic then some (⟨ρ,h.set d (iO true (kK N s) v [kK N .a,kK N .b,kK N .c,kK N .d,kK N .n,kK N .s] [A.a,A.b,A.c,A.d,A.n,A.s])⟩:b8)else none)=_
 rw[if_pos (by show 6<ic;decide)]
 unfold iO;rw[if_pos hs,go];rfl
end bI
set_option maxHeartbeats 4000000
namespace bI
open PySem L2 L2.U
theorem mM(c:Nat){N:Nm}(K:bt N){h:List aj}{d:Nat}{V:Vs}(e:h[d]?=some (Dh N V))(x:Ix){m:Nat}(hm:1<=m):run aM (c+1) "_law_place" [.ref d,yL N x,.int (m:Int)] h=some (.ok (.int (iw V m x:Int)),h):=by
 have ka:bu h (.ref d) (.au [.str N.a,.au []])=some (.int V.a):=mL K e .a;have kb:bu h (.ref d) (.au [.str N.b,.au []])=some (.int V.b):=mL K e .b;have ma:∀h,cE h (.int V.a) (.int (m:Int))=_:=λh=>iU hm
 have mb:∀h,cE h (.int V.b) (.int (m:Int))=_:=λh=>iU hm
 rw[Bf];cases x with
 | «at» i=>simp only[↓bM,yL];rfl
 | a=>simp only[↓bM,yL,ka,ma];rfl
 | b=>simp only[↓bM,yL,kb,mb];rfl
theorem Jd(c:Nat){N:Nm}(K:bt N){h:List aj}{d:Nat}{V:Vs}(e:h[d]?=some (Dh N V))(hs:Hs V){o:Op}(ho:Bj V o):run aM (c+2) "_law_number" [.ref d,gX N o] h=some (.ok (.int (opV V o)),h):=by
 have ka:bu h (.ref d) (.au [.str N.a,.au []])=some (.int V.a):=mL K e .a;have kb:bu h (.ref d) (.au [.str N.b,.au []])=some (.int V.b):=mL K e .b;have kc:bu h (.ref d) (.au [.str N.c,.au []])=some (stP V.c):=mL K e .c;have kd:bu h (.ref d) (.au [.str N.d,.au []])=some (.int V.d):=mL K e .d;have kn:bu h (.ref d) (.au [.str N.e,.au [.int 0]])=some (.int V.n):=mL K e .n;have ks:bu h (.ref d) (.au [.str N.e,.au [.int 1]])=some (stP V.s):=mL K e .s;have hE:h.isEmpty=false:=fx e;have nr:∀l,ao (.ref d::l)=false:=ko d
 have e9:=λh L=>mI (L:=L) (h:=h)
 have pc:=λx=>mM c K e x hs.c
 have ps:=λx=>mM c K e x hs.s
 have nn:∀x,ej (yL N x)=false:=λx=>by cases x<;>rfl
 have lt:∀(L:List Int) x,1<=L.length->(∀i,x=Ix.at i->i<L.length)->iw V L.length x<L.length:=λL x h1 h2=>by
  cases x with
  | «at» i=>exact h2 i rfl
  | a=>exact mod_lt h1
  | b=>exact mod_lt h1
 rw[nY];cases o with
 | num i=>simp only[↓bM,gX];rfl
 | sp s =>
  cases s with
  | s=>exact absurd ho id
  | c=>exact absurd ho id
  | a=>simp only[↓bM,gX,gm,ka];rfl
  | b=>simp only[↓bM,gX,gm,kb];rfl
  | d=>simp only[↓bM,gX,gm,kd];rfl
  | n=>simp only[↓bM,gX,gm,kn];rfl
  | i x =>
   have e2:∀h,bu h (stP V.c) (.int (iw V V.c.length x:Int))=_:=λh=>jX (lt V.c x hs.c λi hi=>by rw[hi]at ho;exact ho)
   have px:=pc x;simp only[↓bM,gX,gm,kc,nn,e9,px,e2,hE,nr,aW,aU];rfl
  | j x =>
   have e2:∀h,bu h (stP V.s) (.int (iw V V.s.length x:Int))=_:=λh=>jX (lt V.s x hs.s λi hi=>by rw[hi]at ho;exact ho)
   have px:=ps x;simp only[↓bM,gX,gm,ks,nn,e9,px,e2,hE,nr,aW,aU];rfl
theorem EN(c:Nat){g:Sg}{x y:Int}(hx:Bd x)(hy:Bd y):run aM (c+1) "_law_reckon" [.str (CP g),.int x,.int y] []=some (.ok (.int (RC g x y)),[]):=by
 have e4:=λh=>IF (h:=h)
 have e5:=λh x=>rM (h:=h) (x:=x)
 have e6:=λh=>IH (h:=h) hx hy
 rw[yG];cases g<;>(simp only[↓bM,e4,e5,e6,CP];rfl)
end bI
set_option maxHeartbeats 4000000
namespace bI
open PySem L2 L2.U
noncomputable def NO:Sp->Bool
 | .i _=>false
 | .j _=>false
 | _=>true
noncomputable def uA:Sp->Ix
 | .i x=>x
 | .j x=>x
 | _=>.a
theorem y9(N:Nm){s:Sp}(h:NO s=true):gm N s=.au [.str (N.n s.x),.bl false,Jc s,.aL]:=by cases s<;>first | rfl | cases h
theorem NP(N:Nm){s:Sp}(h:NO s=false):gm N s=.au [.str (N.n s.x),.bl false,Jc s,yL N (uA s)]:=by cases s<;>first | rfl | cases h
theorem Mv(c:Nat){N:Nm}(K:bt N){h:List aj}{d:Nat}{V:Vs}(e:h[d]?=some (Dh N V))(hz:Vz N V){r:Rw}(ok:rR N V r)(hr:xj r≠none\/∃s t,r=.dR s t) :
  run aM (c+3) "_law_done" [.ref d,bK N r] h=some (.ok .aL,h.set d (Dh N (dC N V r))):=by
 have hs:=hz.h K;have hE:h.isEmpty=false:=fx e;have nr:∀l,ao (.ref d::l)=false:=ko d
 have nm:=λo ho=>Jd c K e hs (o:=o) ho
 have ke:=λs=>mL K e s
 have sk:∀s v ρ,nM (.ref d) (pK N s) v ⟨ρ,h⟩=some ⟨ρ,h.set d (NN N (fj (ij V) v s))⟩:=λs v ρ=>RW K (A:=ij V) e s
 have nn:∀x,ej (yL N x)=false:=λx=>by cases x<;>rfl
 have WW:∀s x,EI s=true->NN N (fj (ij V) (.int x) s)=Dh N (wV N V x s):=λs x hn=>by
  rw[rW,<-mJ];cases s<;>first | rfl | cases hn
 have WX:∀s x,NO s=false->NN N (fj (ij V) (stP ((gv V s).set (iw V (gv V s).length (uA s)) x)) s)=Dh N (wV N V x s):=λs x hn=>by
  rw[rW,<-mJ];cases s<;>first | rfl | cases hn
 have spn:∀s,RD V s->(EI s=true/\NO s=true)\/(NO s=false/\1<=(gv V s).length/\(gv V s).length<=8/\iw V (gv V s).length (uA s)<(gv V s).length/\SW V s=stP (gv V s)):=λs h=>by
  have lt:∀(L:List Int) x,1<=L.length->(∀i,x=Ix.at i->i<L.length)->iw V L.length x<L.length:=λL x h1 h2=>by
   cases x with
   | «at» i=>exact h2 i rfl
   | a=>exact mod_lt h1
   | b=>exact mod_lt h1
  cases s with
  | a=>exact .inl ⟨rfl,rfl⟩
  | b=>exact .inl ⟨rfl,rfl⟩
  | d=>exact .inl ⟨rfl,rfl⟩
  | n=>exact .inl ⟨rfl,rfl⟩
  | c=>exact absurd h id
  | s=>exact absurd h id
  | i x=>exact .inr ⟨rfl,hs.c,hz.c8 K,lt V.c x hs.c λi hi=>by rw[hi]at h;exact h,rfl⟩
  | j x=>exact .inr ⟨rfl,hs.s,hz.s8 K,lt V.s x hs.s λi hi=>by rw[hi]at h;exact h,rfl⟩
 have M4:∀s x,(gv V s).length<=8->iw V (gv V s).length (uA s)<(gv V s).length->(∀h,DQ h none (some (iw V (gv V s).length (uA s):Int)) (stP (gv V s))=some (.au (((gv V s).take (iw V (gv V s).length (uA s))).map .int)))/\(∀h,DQ h (some ((iw V (gv V s).length (uA s)+1:Nat):Int)) none (stP (gv V s))=some (.au (((gv V s).drop (iw V (gv V s).length (uA s)+1)).map .int)))/\(∀h,gK h (.au (((gv V s).take (iw V (gv V s).length (uA s))).map .int)) (.au [.int x])=some (.au (((gv V s).take (iw V (gv V s).length (uA s))++[x]).map .int)))/\(∀h,gK h (.au (((gv V s).take (iw V (gv V s).length (uA s))++[x]).map .int)) (.au (((gv V s).drop (iw V (gv V s).length (uA s)+1)).map .int))=some (stP ((gv V s).set (iw V (gv V s).length (uA s)) x)))/\∀h,gK h (.int (iw V (gv V s).length (uA s):Int)) (.int 1)=some (.int ((iw V (gv V s).length (uA s)+1:Nat):Int)):=λs x i3 i4=>by
  refine⟨λh=>?_,λh=>?_,λh=>(wQ i4 i3).1,λh=>(wQ i4 i3).2,λh=>rfl⟩
  ·show some (PV.au (je ((gv V s).map .int) none _))=_;rw[II _ _ (by lia)]
  ·show some (PV.au (je ((gv V s).map .int) (some ((iw V (gv V s).length (uA s)+1:Nat):Int)) none))=_;rw[IJ _ _ (by lia)]
 have e9:=λh L=>mI (L:=L) (h:=h)
 rw[EB];cases r with
 | dR s t =>
  have hc:=ok.c s t rfl;have p1:NO s=true/\NO t=true/\SW V t=sT V t:=by
   rcases hc with⟨h1,h2⟩ | ⟨h1,h2⟩<;>cases s<;>cases t<;>first | exact⟨rfl,rfl,rfl⟩ | exact absurd h1 cw | exact absurd h2 cw
  have kt:=ke t;have ks:=sk s (sT V t);rw[p1.2.2]at kt;have iJ:NN N (fj (ij V) (sT V t) s)=Dh N (dC N V (.dR s t)):=by
   rw[rW,IT V hc];rfl
  rw[iJ]at ks;unfold pK at kt ks;simp only[↓bM,bK,y9 N p1.1,y9 N p1.2.1,kt,ks,hE,nr,aW,aU]
 | put s o =>
  have n0:=nm o (ok.o o (by simp[bX])).1
  have sp:RD V s:=by
   rcases ok.t s rfl with⟨_,h⟩ | ⟨⟨o,h⟩,_⟩ | ⟨⟨g,o,p,h⟩,_⟩
   ·exact h
   ·cases h
   ·cases h
  rcases spn s sp with⟨i1,i2⟩ | ⟨i1,i2,i3,i4,i5⟩
  ·have ks:=sk s (.int (opV V o));rw[WW s _ i1]at ks;unfold pK at ks;simp only[↓bM,bK,y9 N i2,n0,ks,hE,nr,aW,aU];rfl
  ·have kt:=ke s;rw[i5]at kt;have ks:=sk s (stP ((gv V s).set (iw V (gv V s).length (uA s)) (opV V o)));rw[WX s _ i1]at ks;unfold pK at kt ks;have px:=mM (c+1) K e (uA s) i2;obtain⟨c1,c2,c3,c4,ad⟩:=M4 s (opV V o) i3 i4;simp only[↓bM,bK,NP N i1,nn,n0,kt,e9,px,c1,c2,c3,c4,ad,ks,hE,nr,aW,aU];rfl
 | fill s o =>
  have n0:=nm o (ok.o o (by simp[bX])).1
  have sp:NO s=true/\SW V s=stP (gv V s)/\NN N (fj (ij V) (stP (List.replicate (gv V s).length (opV V o))) s)=Dh N (wV N V (opV V o) s)/\(gv V s).length<=8:=by
   rcases ok.t s rfl with⟨⟨o,h⟩,_⟩ | ⟨_,h⟩ | ⟨⟨g,o,p,h⟩,_⟩
   ·cases h
   ·rcases h with rfl | rfl
    ·refine⟨rfl,rfl,?_,hz.c8 K⟩;rw[rW,<-mJ,show(gv V .c).length=N.z from hz.c]
     rfl
    ·refine⟨rfl,rfl,?_,hz.s8 K⟩;rw[rW,<-mJ,show(gv V .s).length=N.y from hz.s]
     rfl
   ·cases h
  obtain⟨i1,i2,i3,i4⟩:=sp;have kt:=ke s;rw[i2]at kt;have ks:=sk s (stP (List.replicate (gv V s).length (opV V o)));rw[i3]at ks;unfold pK at kt ks;have rep:=λh=>pq (h:=h) (x:=opV V o) i4
  simp only[↓bM,bK,y9 N i1,n0,kt,e9,rep,ks,hE,nr,aW,aU];rfl
 | set s g o p =>
  have n0:=nm o (ok.o o (by simp[bX])).1
  have n1:=nm p (ok.o p (by simp[bX])).1
  have nk:=EN (c+1) (g:=g) (ok.o o (by simp[bX])).2 (ok.o p (by simp[bX])).2
  have n2:run aM (c+2) "_law_number" [.ref d,.str (CP g)] h=some (.ok (.str (CP g)),h):=by
   rw[nY];simp only[↓bM]
  have nr3:ao [.str (CP g),.int (opV V o),.int (opV V p)]=true:=rfl;have sp:RD V s:=by
   rcases ok.t s rfl with⟨⟨o,h⟩,_⟩ | ⟨⟨o,h⟩,_⟩ | ⟨_,h⟩
   ·cases h
   ·cases h
   ·exact h
  rcases spn s sp with⟨i1,i2⟩ | ⟨i1,i2,i3,i4,i5⟩
  ·have ks:=sk s (.int (RC g (opV V o) (opV V p)));rw[WW s _ i1]at ks;unfold pK at ks;simp only[↓bM,bK,y9 N i2,n0,n1,n2,nk,nr3,ks,hE,nr,aW,aU,bT,bQ];rfl
  ·have kt:=ke s;rw[i5]at kt;have ks:=sk s (stP ((gv V s).set (iw V (gv V s).length (uA s)) (RC g (opV V o) (opV V p))));rw[WX s _ i1]at ks;unfold pK at kt ks;have px:=mM (c+1) K e (uA s) i2;obtain⟨c1,c2,c3,c4,ad⟩:=M4 s (RC g (opV V o) (opV V p)) i3 i4;simp only[↓bM,bK,NP N i1,nn,n0,n1,n2,nk,nr3,kt,e9,px,c1,c2,c3,c4,ad,ks,hE,nr,aW,aU,bT,bQ];rfl
 | _ =>
  rcases hr with h | ⟨s,t,h⟩
  ·exact absurd rfl h
  ·cases h
end bI
set_option maxHeartbeats 4000000
namespace bI
open PySem L2 L2.U
theorem rX{h:List aj}{d:Nat}{ks:List (bP×List bP)}{ps:List PV}{pk v:PV}{k:bP×List bP}{ρ:List (Option PV)}(e:h[d]?=some ⟨.eS true ks,ps⟩)(hk:fV true pk=some k)(hn:mi k ks=false)(hl:ks.length<100) :
  nM (.ref d) pk v ⟨ρ,h⟩=some ⟨ρ,h.set d ⟨.eS true (ks++[k]),ps++[v]⟩⟩:=by
 show((jf h (.ref d)).bind λc=>match c.2.k with
  | .lst=>(nF pk).bind λi=>(DI c.2.ps.length i).map λj=>(⟨ρ,h.set c.1 ⟨.lst,c.2.ps.set j v⟩⟩:b8)
  | .eS t mR=>(fV t pk).bind λk=>if mR.length<ic then some ⟨ρ,h.set c.1 (iO t k v mR c.2.ps)⟩else none
  | _=>none)=_
 rw[dy e rfl];show((fV true pk).bind λk=>if ks.length<ic then some (⟨ρ,h.set d (iO true k v ks ps)⟩:b8)else none)=_
 rw[hk];refine(if_pos (jx hl (by decide))).trans ?_
 unfold iO;rw[hn];rfl
theorem Je(c:Nat){N:Nm}(K:bt N){F:List Rw}{x:Int}:run aM (c+1) "_law_begin" [.au [fdP N F],.int x] []=some (.ok (.ref 0),[Dh N (sV N x)]):=by
 have nq:∀{x y:N5} {p q:List bP},x≠y->¬((.inr (N.n x),p):bP×List bP)=(.inr (N.n y),q):=λhx z=>by
  injection z with z1 _
  injection z1 with z2
  exact hx (K.n z2)
 have nh:∀(y:N5) (p:List bP) (L:List (N5×List bP)),(∀z∈L,y≠z.1\/p≠z.2)->mi (.inr (N.n y),p) (L.map λz=>(.inr (N.n z.1),z.2))=false:=λy p L hL=>by
  unfold mi;rw[zH];intro k hk;obtain⟨z,hz,rfl⟩:=bZ.mp hk;rcases hL z hz with h | h
  ·simp[nq (p:=p) (q:=z.2) h];intro h2;exact absurd (K.n h2).symm h
  ·simp;intro _ h2;exact absurd h2.symm h
 have sb:∀ρ u v,nM (.ref 0) (.au [.str (N.n .b),.au []]) v ⟨ρ,[⟨.eS true (List.append [] [(.inr (N.n .a),[])]),[u]⟩]⟩=some ⟨ρ,[⟨.eS true [kK N .a,kK N .b],[u,v]⟩]⟩:=λρ u v=>rX (h:=[⟨.eS true [kK N .a],[u]⟩]) (d:=0) (ks:=[kK N .a]) rfl (lE N .b) (nh .b [] [(.a,[])] (by simp)) (by simp)
 have sc:∀ρ u v w,nM (.ref 0) (.au [.str (N.n .c),.au []]) w ⟨ρ,[⟨.eS true [kK N .a,kK N .b],[u,v]⟩]⟩=some ⟨ρ,[⟨.eS true [kK N .a,kK N .b,kK N .c],[u,v,w]⟩]⟩:=λρ u v w=>rX (h:=[⟨.eS true [kK N .a,kK N .b],[u,v]⟩]) (d:=0) (ks:=[kK N .a,kK N .b]) rfl (lE N .c) (nh .c [] [(.a,[]),(.b,[])] (by simp)) (by simp)
 have sd:∀ρ u v w y,nM (.ref 0) (.au [.str (N.n .d),.au []]) y ⟨ρ,[⟨.eS true [kK N .a,kK N .b,kK N .c],[u,v,w]⟩]⟩=some ⟨ρ,[⟨.eS true [kK N .a,kK N .b,kK N .c,kK N .d],[u,v,w,y]⟩]⟩:=λρ u v w y=>rX (h:=[⟨.eS true [kK N .a,kK N .b,kK N .c],[u,v,w]⟩]) (d:=0) (ks:=[kK N .a,kK N .b,kK N .c]) rfl (lE N .d) (nh .d [] [(.a,[]),(.b,[]),(.c,[])] (by simp)) (by simp)
 have sn:∀ρ u v w y z,nM (.ref 0) (.au [.str (N.n .e),.au [.int 0]]) z ⟨ρ,[⟨.eS true [kK N .a,kK N .b,kK N .c,kK N .d],[u,v,w,y]⟩]⟩=some ⟨ρ,[⟨.eS true [kK N .a,kK N .b,kK N .c,kK N .d,kK N .n],[u,v,w,y,z]⟩]⟩:=λρ u v w y z=>rX (h:=[⟨.eS true [kK N .a,kK N .b,kK N .c,kK N .d],[u,v,w,y]⟩]) (d:=0) (ks:=[kK N .a,kK N .b,kK N .c,kK N .d]) rfl (lE N .n) (nh .e [.inl 0] [(.a,[]),(.b,[]),(.c,[]),(.d,[])] (by simp)) (by simp)
 have ss:∀ρ u v w y z t,nM (.ref 0) (.au [.str (N.n .e),.au [.int 1]]) t ⟨ρ,[⟨.eS true [kK N .a,kK N .b,kK N .c,kK N .d,kK N .n],[u,v,w,y,z]⟩]⟩=some ⟨ρ,[⟨.eS true [kK N .a,kK N .b,kK N .c,kK N .d,kK N .n,kK N .s],[u,v,w,y,z,t]⟩]⟩:=λρ u v w y z t=>rX (h:=[⟨.eS true [kK N .a,kK N .b,kK N .c,kK N .d,kK N .n],[u,v,w,y,z]⟩]) (d:=0) (ks:=[kK N .a,kK N .b,kK N .c,kK N .d,kK N .n]) rfl (lE N .s) (nh .e [.inl 1] [(.a,[]),(.b,[]),(.c,[]),(.d,[]),(.e,[.inl 0])] (by simp)) (by simp)
 have sa:∀ρ v,HI (.ref 0) (.au [.str (N.n .a),.au []]) v ⟨ρ,[⟨.eS true [],[]⟩]⟩=some ⟨ρ,[⟨.eS true [kK N .a],[v]⟩]⟩:=λρ v=>rfl
 have rz:=λh=>pq (h:=h) (x:=0) K.z8
 have ry:=λh=>pq (h:=h) (x:=0) K.y8
 rw[Be];simp only[↓bM,fdP,sS,kC,yJ,yK,LW,aP,dZ,sa,sb,sc,sd,sn,ss,rz,ry];rfl
end bI
set_option maxHeartbeats 4000000
namespace bI
open PySem L2 L2.U
def M5(N:Nm):Ix->Tr
 | .at i=>.int (i:Int)
 | .a=>.str N.a
 | .b=>.str N.b
def Jf:Sp->Tr
 | .n=>.au [.int 0]
 | .s=>.au [.int 1]
 | .j _=>.au [.int 1]
 | _=>.au []
def wT(N:Nm):Sp->Tr
 | .i x=>M5 N x
 | .j x=>M5 N x
 | _=>.aL
def spT(N:Nm)(s:Sp):Tr:=.au [.str (N.n s.x),.bl false,Jf s,wT N s]
theorem toT_sp(N:Nm)(s:Sp)(h:List aj):toT h gV (.au [gm N s])=some (.au [spT N s]):=by
 cases s with
 | i x=>cases x<;>rfl
 | j x=>cases x<;>rfl
 | _=>rfl
def opT(N:Nm):Op->Tr
 | .num i=>.int i
 | .sp s=>spT N s
theorem toT_op(N:Nm)(k:Nat)(o:Op)(h:List aj):toT h (k+3) (gX N o)=some (opT N o):=by
 cases o with
 | num i=>rfl
 | sp s=>cases s with
  | i x=>cases x<;>rfl
  | j x=>cases x<;>rfl
  | _=>rfl
theorem NQ{N:Nm}(K:bt N){s t:Sp}(h:eqT (.au [spT N s]) (.au [spT N t])=true):s=t:=by
 have h:(((N.n s.x==N.n t.x)&&(true&&(eqT (Jf s) (Jf t)&&(eqT (wT N s) (wT N t)&&true))))&&true)=true:=h;simp only[bQ,vh,aH,iF]at h;obtain⟨h1,h2,h3⟩:=h;have hx:=K.n h1;have ix:∀x y,eqT (M5 N x) (M5 N y)=true->x=y:=λx y h=>by
  cases x with
  | «at» i=>cases y with
   | «at» j =>
    have:((i:Int)==(j:Int))=true:=h;have:=iF.mp this;exact dH _ (by lia)
   | _=>cases h
  | a=>cases y with
   | a=>rfl
   | b=>cases K.n (x:=.a) (y:=.b) (iF.mp (show(N.a==N.b)=true from h))
   | «at» j=>cases h
  | b=>cases y with
   | b=>rfl
   | a=>cases K.n (x:=.b) (y:=.a) (iF.mp (show(N.b==N.a)=true from h))
   | «at» j=>cases h
 have nx:∀x,¬eqT .aL (M5 N x)=true:=λx z=>by cases x<;>cases z
 have xn:∀x,¬eqT (M5 N x) .aL=true:=λx z=>by cases x<;>cases z
 cases s<;>cases t<;>first | rfl | exact absurd hx (by decide) | exact absurd h2 cw | exact absurd h3 (nx _) | exact absurd h3 (xn _) | exact dH _ (ix _ _ h3)
theorem za(L:List Int)(i:Nat):L.set i (L.getD i 0)=L:=by
 apply List.ext_getElem (by simp)
 intro j h1 h2;rw[List.getElem_set];split
 ·rename_i e;subst e;rw[jm,dU h2];rfl
 ·rfl
theorem RX{N:Nm}(K:bt N){V:Vs}{r:Rw}(ok:rR N V r)(hr:xj r≠none\/(∃s t,r=.dR s t)\/∃x,r=.fP x) :
  ∃p q b,(∀h,DQ h (some 2) none (bK N r)=some p)/\(∀h,DQ h (some 1) (some 2) (bK N r)=some q)/\(∀h,E2 h p q=some (.bl b))/\(b=false->dC N V r=V)/\(b=true->xj r≠none\/∃s t,r=.dR s t):=by
 have ne:∀{p q:PV} {x y:Tr},(∀h,toT h gV p=some x)->(∀h,toT h gV q=some y)->∀h,E2 h p q=some (.bl !(eqT x y)):=λh1 h2 h=>by
  simp[E2,UH,h1,h2]
 have one:∀(s:Sp) (o:Op),∃b,(∀h,E2 h (.au [gX N o]) (.au [gm N s])=some (.bl b))/\(b=false->o=.sp s):=λs o=>by
  cases o with
  | num i=>exact⟨_,ne (x:=.au [.int i]) (λh=>rfl) (toT_sp N s),λh=>by cases h⟩
  | sp t=>exact⟨_,ne (toT_sp N t) (toT_sp N s),λh=>dH Op.sp (NQ K (by simpa using h))⟩
 cases r with
 | put s o =>
  obtain⟨b,h1,h2⟩:=one s o;refine⟨_,_,b,λh=>rfl,λh=>rfl,h1,λh=>?_,λ_=>.inl (by simp[xj])⟩
  cases h2 h;have ha:=(ok.o _ (bh.mpr rfl)).1;cases s with
  | c=>exact absurd ha id
  | s=>exact absurd ha id
  | i x=>show {V with c:=V.c.set _ (V.c.getD _ 0)}=V;rw[za]
  | j x=>show {V with s:=V.s.set _ (V.s.getD _ 0)}=V;rw[za]
  | _=>rfl
 | fill s o =>
  obtain⟨b,h1,h2⟩:=one s o;refine⟨_,_,b,λh=>rfl,λh=>rfl,h1,λh=>?_,λ_=>.inl (by simp[xj])⟩
  cases h2 h;have ha:=(ok.o _ (bh.mpr rfl)).1;rcases ok.t s rfl with⟨⟨_,h⟩,_⟩ | ⟨_,h⟩ | ⟨⟨_,_,_,h⟩,_⟩
  ·cases h
  ·rcases h with rfl | rfl<;>exact absurd ha id
  ·cases h
 | set s g o p =>
  refine⟨.au [.str (CP g),gX N o,gX N p],.au [gm N s],true,λh=>rfl,λh=>rfl,λh=>?_,(λh=>by cases h),λ_=>.inl (by simp[xj])⟩
  have e:toT h gV (.au [.str (CP g),gX N o,gX N p])=some (.au [.str (CP g),opT N o,opT N p]):=by
   show(dD (toT h (996+3)) [.str (CP g),gX N o,gX N p]).bind (KJ .au)=_;show(((some (Tr.str (CP g))).bind λx=>((toT h (996+3) (gX N o)).bind λy=>((toT h (996+3) (gX N p)).bind λz=>(some []).map λr=>z::r).map λr=>y::r).map λr=>x::r)).bind (KJ .au)=_
   rw[toT_op,toT_op];rfl
  simp[E2,UH,e,toT_sp,eqT,vK]
 | dR s t =>
  refine⟨_,_,_,λh=>rfl,λh=>rfl,ne (toT_sp N t) (toT_sp N s),λh=>?_,λ_=>.inr ⟨s,t,rfl⟩⟩
  have e:=NQ K (by simpa using h)
  subst e;cases t<;>rfl
 | fP x =>
  obtain⟨T,hT⟩:∃T,∀h,toT h gV (.au [SK N x])=some T:=⟨_,λh=>rfl⟩
  refine⟨_,_,false,λh=>rfl,λh=>rfl,λh=>?_,λ_=>rfl,(λh=>by cases h)⟩
  exact(ne hT hT h).trans (by rw[fU];rfl)
 | _ =>
  rcases hr with h | ⟨s,t,h⟩ | ⟨x,h⟩
  ·exact absurd rfl h
  ·cases h
  ·cases h
end bI
set_option maxHeartbeats 4000000
namespace bI
open PySem L2 L2.U
def EO(N:Nm)(V:Vs)(sd:List Int)(E:List aj):List aj:=Dh N V::⟨.lst,sd.map .int⟩::E
theorem Mw(c:Nat){N:Nm}(K:bt N){F:List Rw}{V:Vs}{r:Rw}{k most:Nat}{sd:List Int}{E E':List aj}{x0 x1 x3 x7 RY x9:Option PV}(hr:F[k]?=some r)(hz:Vz N V)(ok:rR N V r)(hk:xj r≠none\/(∃s t,r=.dR s t)\/(∃x,r=.fP x)\/∃o,r=.jV o)(hs:sd.length<=4000)
  (hA:(k=most/\RY=some (.ref (E.length+2))/\E'=E++[⟨.lst,sd.map .int⟩])\/(k≠most/\RY=x7/\E'=E)) :
  pe (run aM (c+4)) ⟨[x0,x1,some (.au (F.map (bK N))),x3,some (.int (most:Int)),some (.ref 0),some (.ref 1),x7,some (.int (k:Int)),x9],EO N V sd E⟩=some (.ok .nx,⟨[x0,x1,some (.au (F.map (bK N))),x3,some (.int (most:Int)),some (.ref 0),some (.ref 1),RY,some (.int (k:Int)),x9],EO N (dC N V r) (sd++uz V r) E'⟩):=by
 have pk:∀h,bu h (.au (F.map (bK N))) (.int (k:Int))=some (bK N r):=λh=>atI_nat (by rw[cY,hr];rfl)
 delta pe gy
 refine Ja (s1:=⟨[x0,x1,some (.au (F.map (bK N))),x3,some (.int (most:Int)),some (.ref 0),some (.ref 1),RY,some (.int (k:Int)),x9],EO N V sd E'⟩) (aY ?_) (aY ?_)
 ·obtain⟨h,hh⟩:∃h,EO N V sd E=h:=⟨_,rfl⟩
  have lb:VJ h (.ref 1)=some (sd.map .int):=by rw[<-hh];rfl
  have hl:h.length=E.length+2:=by rw[<-hh];rfl
  rcases hA with⟨e,e1,e2⟩ | ⟨e,e1,e2⟩
  ·have q:∀h,mQ h (.int (k:Int)) (.int (most:Int))=some (.bl true):=λh=>by rw[yI,e,eU]
   have hn:EO N V sd E'=h++[⟨.lst,sd.map .int⟩]:=by rw[<-hh,e2];rfl
   rw[hh,hn,e1,<-hl];simp only[↓fA,q,lb]
  ·have q:∀h,mQ h (.int (k:Int)) (.int (most:Int))=some (.bl false):=λh=>by rw[yI,fE.mpr (by lia)]
   rw[e1,e2,hh];simp only[↓fA,q]
 ·obtain⟨h,hh⟩:∃h,EO N V sd E'=h:=⟨_,rfl⟩
  obtain⟨h',XT⟩:∃h,EO N (dC N V r) (sd++uz V r) E'=h:=⟨_,rfl⟩
  have e0:h[0]?=some (Dh N V):=by rw[<-hh];rfl
  have d1:=ak (show h[1]?=some ⟨.lst,sd.map .int⟩ by rw[<-hh];rfl) rfl
  have hE:h.isEmpty=false:=fx e0;have nr:∀l,ao (.ref 0::l)=false:=ko 0
  rw[hh,XT];have w0:∀h,bu h (bK N r) (.int 0)=some (.str (Jw r)):=λh=>by cases r<;>rfl
  by_cases yY:∃o,r=.jV o
  ·obtain⟨o,rfl⟩:=yY;have n0:=Jd (c+2) K e0 (hz.h K) (ok.o o (by simp[bX])).1
   have ap:∀ρ,fu (dN fw) (.ref 1) [.int (opV V o)] ⟨ρ,h⟩=some (.ok .aL,⟨ρ,h'⟩):=λρ=>by
    rw[wM (h:=h) (n:=1) (L:=sd.map .int) (by rw[<-hh];rfl) (by rw[aT];lia),<-hh,<-XT]
    simp[EO,uz,dC]
   simp only[↓fA,pk,bK,n0,d1,ap,hE,nr,aW,aU]
  ·have hk:xj r≠none\/(∃s t,r=.dR s t)\/∃x,r=.fP x:=by
    rcases hk with h | h | h | h
    ·exact .inl h
    ·exact .inr (.inl h)
    ·exact .inr (.inr h)
    ·exact absurd h yY
   obtain⟨p,q,b,s1,s2,s3,s4,s5⟩:=RX K ok hk;have hsd:uz V r=[]:=by
    cases r<;>first | rfl | exact absurd ⟨_,rfl⟩ yY
   have t2:∀h,mQ h (.str (Jw r)) (.str "say")=some (.bl false):=λh=>by
    cases r<;>first | rfl | exact absurd ⟨_,rfl⟩ yY
   cases b with
   | false =>
    have hv:=s4 rfl;have:h'=h:=by rw[<-XT,<-hh,hv,hsd,c6]
    rw[this];simp only[↓fA,pk,w0,t2,s1,s2,s3]
   | true =>
    have dn:run aM (c+4) "_law_done" [.ref 0,bK N r] h=some (.ok .aL,h'):=by
     rw[Mv (c+1) K e0 hz ok (s5 rfl),<-hh,<-XT,hsd,c6];rfl
    simp only[↓fA,pk,w0,t2,s1,s2,s3,dn,hE,nr,aW,aU]
end bI
set_option maxHeartbeats 4000000
namespace bI
open PySem L2 L2.U
def stN(N:Nm)(F:List Rw)(x:Int):Nat->Vs×List Int
 | 0=>(sV N x,[])
 | k+1=>match F[k]? with
  | some r=>(dC N (stN N F x k).1 r,(stN N F x k).2++uz (stN N F x k).1 r)
  | none=>stN N F x k
def LnR(r:Rw):Prop:=xj r≠none\/(∃s t,r=.dR s t)\/(∃x,r=.fP x)\/∃o,r=.jV o
structure w5 (F:List Rw) (L:Nat):Prop where
 len:F.length=L+1
 last:F[L]?=some .dr
 mid:∀k,k<L->∃r,F[k]?=some r/\LnR r
section
variable {N:Nm} {F:List Rw} {x:Int} {L:Nat}
theorem zb{r:Rw}(h:LnR r)(V:Vs)(i:Nat):rQ V i r=i+1/\r≠.dr:=by
 cases r
 case go j=>rcases h with h | ⟨s,t,h⟩ | ⟨x,h⟩ | ⟨o,h⟩<;>first | exact absurd rfl h | cases h
 case ifs o p j=>rcases h with h | ⟨s,t,h⟩ | ⟨x,h⟩ | ⟨o,h⟩<;>first | exact absurd rfl h | cases h
 case dr=>rcases h with h | ⟨s,t,h⟩ | ⟨x,h⟩ | ⟨o,h⟩<;>first | exact absurd rfl h | cases h
 all_goals exact⟨rfl,λz=>by cases z⟩
theorem mN{k:Nat}{r:Rw}(h:F[k]?=some r):stN N F x (k+1)=(dC N (stN N F x k).1 r,(stN N F x k).2++uz (stN N F x k).1 r):=by
 show(match F[k]? with
  | some r=>_
  | none=>_)=_
 rw[h]
theorem Bw(W:w5 F L):∀k,k<=L->(stN N F x k).2.length<=k
 | 0,_=>aA _
 | k+1,h=>by
  obtain⟨r,hr,_⟩:=W.mid k h;have:=Bw W k (by lia)
  have:=IY (stN N F x k).1 r;rw[mN hr,bB]
  lia
theorem Jg(P:oH N F)(W:w5 F L)(hx:Bd x):∀k,k<=L->oU N (stN N F x k).1
 | 0,_=>Jb N hx
 | k+1,h=>by
  obtain⟨r,hr,hl⟩:=W.mid k h;have hV:=Jg P W hx k (by lia)
  obtain⟨ok,cp,_⟩:=P.row k r hr (zb hl (stN N F x k).1 k).2;rw[mN hr];exact Dg hV (ok _ hV) cp
theorem zc(W:w5 F L):∀j i,i+j<=L->runN N F j i i (stN N F x i).1 (stN N F x i).2=(("more":Str),(stN N F x (i+j)).2,i+j)
 | 0,i,_=>rfl
 | j+1,i,h=>by
  obtain⟨r,hr,hl⟩:=W.mid i (by lia)
  obtain⟨h1,h2⟩:=zb hl (stN N F x i).1 i;rw[rS hr h2,h1];have:=zc W j (i+1) (by lia)
  rw[mN hr]at this;rw[this,show i+1+j=i+(j+1) by lia]
theorem zd(W:w5 F L)(e:Nat):∀j i,i+j=L->runN N F (j+1+e) i i (stN N F x i).1 (stN N F x i).2=(("done":Str),(stN N F x L).2,L+1)
 | 0,i,h=>by
  have h:i=L:=by lia
  subst h;rw[show 0+1+e=e+1 by lia]
  show(match F[i]? with
   | none=>_
   | some .dr=>_
   | some r=>_)=_
  rw[W.last]
 | j+1,i,h=>by
  obtain⟨r,hr,hl⟩:=W.mid i (by lia)
  obtain⟨h1,h2⟩:=zb hl (stN N F x i).1 i;rw[show j+1+1+e=(j+1+e)+1 by lia,rS hr h2,h1]
  have:=zd W e j (i+1) (by lia)
  rw[mN hr]at this;exact this
theorem ze(W:w5 F L){most:Nat}(h:most<=L):EM N F most x=.au [.str "more",.lst ((stN N F x most).2.map .int),.int (most:Int),.au []]:=by
 unfold EM;rw[show sV N x=(stN N F x 0).1 from rfl,show([]:List Int)=(stN N F x 0).2 from rfl,zc W most 0 (by lia),ny]
theorem zf(W:w5 F L){most:Nat}(h:L<most):EM N F most x=.au [.str "done",.lst ((stN N F x L).2.map .int),.int ((L+1:Nat):Int),.au []]:=by
 unfold EM;rw[show sV N x=(stN N F x 0).1 from rfl,show([]:List Int)=(stN N F x 0).2 from rfl,show most=L+1+(most-L-1) by lia,zd W _ L 0 (by lia)]
def E9(N:Nm)(F:List Rw)(x:Int)(most k:Nat):List aj:=if most<k then [⟨.lst,[]⟩,⟨.lst,(stN N F x most).2.map .int⟩]else [⟨.lst,[]⟩]
def Mx(most k:Nat):Nat:=if most<k then 3 else 2
theorem Di(c:Nat)(K:bt N)(P:oH N F)(W:w5 F L)(hL:L<=4000)(hx:Bd x){most:Nat}{x0 x1 x3 x9:Option PV}:∀(j k:Nat) (x8:Option PV),k+j=L->∃ER,gj (dh 8) (pe (run aM (c+4))) ((List.range' k j).map λm:Nat=>.int (m:Int)) ⟨[x0,x1,some (.au (F.map (bK N))),x3,some (.int (most:Int)),some (.ref 0),some (.ref 1),some (.ref (Mx most k)),x8,x9],EO N (stN N F x k).1 (stN N F x k).2 (E9 N F x most k)⟩=some (.ok .nx,⟨[x0,x1,some (.au (F.map (bK N))),x3,some (.int (most:Int)),some (.ref 0),some (.ref 1),some (.ref (Mx most L)),ER,x9],EO N (stN N F x L).1 (stN N F x L).2 (E9 N F x most L)⟩)
 | 0,k,x8,h=>by
  have h:k=L:=by lia
  subst h;exact⟨x8,rfl⟩
 | j+1,k,x8,h=>by
  obtain⟨r,hr,hl⟩:=W.mid k (by lia)
  have hV:=Jg P W hx k (by lia)
  obtain⟨ok,cp,_⟩:=P.row k r hr (zb hl (stN N F x k).1 k).2;obtain⟨ER,e2⟩:=Di c K P W hL hx (most:=most) (x0:=x0) (x1:=x1) (x3:=x3) (x9:=x9) j (k+1) (some (.int (k:Int))) (by lia)
  have e1:=Mw c K (most:=most) (E:=E9 N F x most k) (E':=E9 N F x most (k+1)) (x0:=x0) (x1:=x1) (x3:=x3) (x7:=some (.ref (Mx most k))) (RY:=some (.ref (Mx most (k+1)))) (x9:=x9) hr hV.z (ok _ hV) hl (aR (Bw W k (by lia)) (by lia)) (by
   by_cases e:k=most
   ·subst e;refine .inl ⟨rfl,?_,?_⟩
    ·unfold Mx E9;rw[if_pos (by lia),if_neg (by lia)]
     rfl
    ·unfold E9;rw[if_pos (by lia),if_neg (by lia)]
     rfl
   ·refine .inr ⟨e,?_,?_⟩
    ·unfold Mx;by_cases h:most<k
     ·rw[if_pos h,if_pos (by lia)]
     ·rw[if_neg h,if_neg (by lia)]
    ·unfold E9;by_cases h:most<k
     ·rw[if_pos h,if_pos (by lia)]
     ·rw[if_neg h,if_neg (by lia)])
  have es:=mN (N:=N) (x:=x) hr;rw[show dC N (stN N F x k).1 r=(stN N F x (k+1)).1 by rw[es],show(stN N F x k).2++uz (stN N F x k).1 r=(stN N F x (k+1)).2 by rw[es]]at e1
  refine⟨ER,?_⟩;rw[List.range'_succ,aP];exact fC (s1:=⟨[x0,x1,some (.au (F.map (bK N))),x3,some (.int (most:Int)),some (.ref 0),some (.ref 1),some (.ref (Mx most k)),some (.int (k:Int)),x9],EO N (stN N F x k).1 (stN N F x k).2 (E9 N F x most k)⟩) rfl e1 e2
end
end bI
set_option maxHeartbeats 4000000
namespace bI
open PySem L2 L2.U
theorem My{n:Nat}(hn:n<=4000000):xZ [.int n]=some ((List.range n).map λm:Nat=>.int (m:Int)):=by
 show(if PZ 0 n=true then some (GZ 0 ((n:Int)).toNat)else none)=_
 rw[if_pos (by unfold PZ;exact dW (by lia))]
 unfold GZ;simp
theorem Jh(c:Nat)(x:Int):run aM (c+1) "_law_whole" [.int x] []=some (.ok (.bl true),[]):=by
 rw[Bb];simp only[↓bM];rfl
theorem toT_ints(h:List aj)(n:Nat):∀l:List Int,dD (toT h (n+1)) (l.map PV.int)=some (l.map Tr.int)
 | []=>rfl
 | x::l=>by
  show(some (Tr.int x)).bind (λy=>(dD (toT h (n+1)) (l.map PV.int)).map λr=>y::r)=_
  rw[toT_ints h n l];rfl
theorem Mz(w:Str):∀h,E2 h (.str w) (.str w)=some (.bl false):=λh=>by
 show some (PV.bl (!(eqT (.str w) (.str w))))=_;rw[fU];rfl
theorem ES(n:Int):∀h,mQ h (.int n) (.int n)=some (.bl true):=λh=>by
 show some (PV.bl (eqT (.int n) (.int n)))=_;rw[fU]
theorem uB{bd:PV->List aj->Option (Option PV×List aj)}{h:List aj}(H:∀x:Int,bd (.int x) h=some (none,h)):∀l:List Int,fy bd (l.map PV.int) h=some ([],h)
 | []=>rfl
 | x::l=>by
  show(bd (.int x) h).bind (λr=>(fy bd (l.map PV.int) r.2).map λs=>(r.1.toList++s.1,s.2))=_
  rw[H x];show(fy bd (l.map PV.int) h).map _=_;rw[uB H l];rfl
theorem Bx(l:List Int){h:List aj}{i:Nat}(e:h[i]?=some ⟨.lst,l.map .int⟩):mQ h (.lst (l.map .int)) (.ref i)=some (.bl true):=by
 obtain⟨m,hm⟩:∃m,gV=m+2:=⟨_,rfl⟩
 have e1:toT h gV (.lst (l.map .int))=some (.lst (l.map Tr.int)):=by
  rw[hm];show(dD (toT h (m+1)) (l.map PV.int)).bind (KJ .lst)=_;rw[toT_ints];rfl
 have e2:toT h gV (.ref i)=some (.lst (l.map Tr.int)):=by
  rw[hm];show((cQ h (.ref i)).bind λq=>(dD (toT h (m+1)) q.snd).bind (KJ q.fst))=_
  rw[ak e rfl];show(dD (toT h (m+1)) (l.map PV.int)).bind (KJ .lst)=_;rw[toT_ints];rfl
 show(((toT h gV _).bind λx=>(toT h gV _).map λy=>eqT x y).map PV.bl)=_
 rw[e1,e2];show some (PV.bl (eqT _ _))=_;rw[fU]
theorem MA(c:Nat)(w:Str){l:List Int}(hl:l.length<=9000)(n:Int){h:List aj}{i:Nat}(e:h[i]?=some ⟨.lst,l.map .int⟩):run aM (c+2) "_law_told" [.au [.str w,.lst (l.map .int),.int n,.au []],.str w,.ref i,.int n] h=some (.ok (.bl true),h):=by
 have e1:=λx=>Jh c x
 have e2:=Bx l e;have e3:∀h,E2 h (.lst []) (.lst [])=some (.bl false):=λh=>rfl
 have e4:=Mz w;have e5:=ES n;have e6:∀h,E2 h (.au []) (.au [])=some (.bl false):=λh=>rfl
 have hl':l.length<=4000000:=aR hl (by decide)
 have nw:∀x:Int,ao [.int x]=true:=λ_=>rfl
 have cp:=λx1:Option PV=>uB (bd:=xX (dh 1) (Ku (vH (bnd (i7 (rd 1) (cD [])) (mB 0 1 (run aM (c+1) "_law_whole"))))) (rd 1) [none,x1]) (h:=h) (λx=>e2F (M9:=[none,some (.int x)]) (h1:=h) rfl (by
  refine aY ?_;simp only[↓fA,e1,nw,bT,bQ];rfl)) l
 rw[EC];simp only[↓bM,e1,e2,e3,e4,e5,e6,cp,hl',nw,aT,bT,bQ]
end bI
set_option maxHeartbeats 4000000
namespace bI
open PySem L2 L2.U
theorem gr{h:List aj}{i j:Int}(hj:0<j):cE h (.int i) (.int j)=some (.int (i%j)):=if_pos (dW hj)
theorem oV{h:List aj}{i j:Int}(hj:0<j/\j<1073741824):gL h (.int i) (.int j)=some (.int (i/j)):=if_pos (dW hj)
theorem NR{h:List aj}{i j:Int}(hj:(-oy<i/\i<oy)\/(-oy<j/\j<oy)):jO h (.int i) (.int j)=some (.int (i*j)):=if_pos (.inl hj)
theorem aaT{ρ:List (Option PV)}{F:List PV}{v:PV}(h:F.length<=4000):fu (dN fw) (.ref 0) [v] ⟨ρ,[⟨.lst,F⟩]⟩=some (.ok .aL,⟨ρ,[⟨.lst,F++[v]⟩]⟩):=wM (h:=[⟨.lst,F⟩]) rfl h
noncomputable def cp(n:Int):Nat:=97+(n%26).toNat
def lt(n:Int):Str:=⟨#[cp n]⟩
def strOf(l:List Nat):Str:=⟨l.toArray⟩
theorem uC{a b:List Nat}(h:strOf a=strOf b):a=b:=by
 have:a.toArray=b.toArray:=dH Str.cps h;simpa using this
theorem By(a b:List Nat):strOf a++strOf b=strOf (a++b):=by
 show Str.append _ _=_;unfold Str.append strOf;simp
theorem Dj:(Str.ofString "")=strOf []:=by decide +kernel
theorem Dk(l:List Nat):(strOf l).length=l.length:=by
 unfold strOf Str.length;simp
theorem Bz:∀m:Fin 26,L2.sh (Str.ofString "abcdefghijklmnopqrstuvwxyz").cps.toList ((m:Nat):Int)=some (97+(m:Nat)):=by decide +kernel
theorem uD{h:List aj}{n:Int}:bu h (.str "abcdefghijklmnopqrstuvwxyz") (.int (n%26))=some (.str (lt n)):=by
 have h0:=ju n (show(26:Int)≠0 by decide)
 obtain⟨m,hm⟩:=Int.eq_ofNat_of_zero_le h0;have:=Bz ⟨m,by lia⟩
 show(if(Str.ofString "abcdefghijklmnopqrstuvwxyz").length<=ic then(L2.sh (Str.ofString "abcdefghijklmnopqrstuvwxyz").cps.toList (n%26)).map λc=>PV.str ⟨#[c]⟩else none)=_
 rw[if_pos (by decide +kernel),hm,this]
 show some (PV.str ⟨#[97+m]⟩)=some (PV.str ⟨#[cp n]⟩);unfold cp;rw[hm,kH]
theorem RZ{a b:Int}(h:cp a=cp b):a%26=b%26:=by
 unfold cp at h
 lia
theorem Ji{l:List Nat}{n:Int}{h:List aj}(hl:l.length<=100):gK h (.str (strOf l)) (.str (lt n))=some (.str (strOf (l++[cp n]))):=by
 have e:gK h (.str (strOf l)) (.str (lt n))=U.sizeOk ((strOf l).length+(lt n).length) (.str (strOf l++lt n)):=rfl;rw[e,show lt n=strOf [cp n]from rfl,By,Dk,Dk]
 exact if_pos (show l.length+1<=ic by have:ic=4000000:=rfl;lia)
noncomputable abbrev R6:PV:=.str "abcdefghijklmnopqrstuvwxyz"
def R7(B:List Int)(a q i:Nat):Nat:=cp (B.getD i 0+(q:Int)*(if i=a then 1 else 0))
theorem og(c:CT){x0 x1 x6:Option PV}{h0:List aj}(B:List Int)(a q:Nat)(hB:B.length<=50):∀(XU pre:List Nat) (x8:Option PV),List.range B.length=pre++XU->∃ER,gj (dh 8) (rn c) (XU.map λn:Nat=>.int (n:Int)) ⟨[x0,x1,some R6,some (.int q),some (.lst (B.map .int)),some (.int a),x6,some (.str (strOf (pre.map (R7 B a q)))),x8],h0⟩=some (.ok .nx,⟨[x0,x1,some R6,some (.int q),some (.lst (B.map .int)),some (.int a),x6,some (.str (strOf ((List.range B.length).map (R7 B a q)))),ER],h0⟩)
 | [],pre,x8,e=>⟨x8,by rw[e,c6];rfl⟩
 | i::XU,pre,x8,e=>by
  have hi:i<B.length:=u6.mp (by rw[e];simp)
  have hp:pre.length<=B.length:=by
   have:=dH List.length e;rw[pN,bB]at this
   lia
  obtain⟨ER,h⟩:=og c (x0:=x0) (x1:=x1) (x6:=x6) (h0:=h0) B a q hB XU (pre++[i]) (some (.int i)) (by rw[e];simp)
  simp only[eV,aP,dZ,R7]at h;refine⟨ER,?_⟩;have hb:∀h,bu h (.lst (B.map PV.int)) (.int (i:Int))=some (.int (B.getD i 0)):=λ_=>atI_nat (by rw[cY,jm,dU hi];rfl)
  have he:∀h,GI h [.bl ((i:Int)==(a:Int))]=some (.int (if i=a then 1 else 0)):=λh=>by
   by_cases hh:i=a
   ·rw[if_pos hh,hh,eU];rfl
   ·rw[if_neg hh,show((i:Int)==(a:Int))=false by rw[fE];lia];rfl
  have hm:∀h,jO h (.int (q:Int)) (.int (if i=a then 1 else 0))=some (.int ((q:Int)*(if i=a then 1 else 0))):=λh=>NR (.inr (by split<;>decide))
  have hl:(pre.map (R7 B a q)).length<=100:=by rw[aT];lia
  rw[aP];refine aY ?_;simp only[↓fA,hb,he,hm,yI,uD,Ji hl,h]
def xl(C:Int)(B:List Int)(a q:Nat):List Nat:=(List.range B.length).map (R7 B a q)++(if C/49%2==1&&(q:Int)%2==1 then [cp (C/98)]else [])
theorem ET(c:CT){x1:Option PV}{C:Int}(B:List Int)(a q:Nat)(hB:B.length<=50){F:List PV}(hF:F.length<=100)(x7 x8:Option PV):∃ER,lx c ⟨[some (.int C),x1,some R6,some (.int q),some (.lst (B.map .int)),some (.int a),some (.ref 0),x7,x8],[⟨.lst,F⟩]⟩=some (.ok .nx,⟨[some (.int C),x1,some R6,some (.int q),some (.lst (B.map .int)),some (.int a),some (.ref 0),some (.str (strOf (xl C B a q))),ER],[⟨.lst,F++[.str (strOf (xl C B a q))]⟩]⟩):=by
 obtain⟨ER,h⟩:=og c (x0:=some (.int C)) (x1:=x1) (x6:=some (.ref 0)) (h0:=[⟨.lst,F⟩]) B a q hB (List.range B.length) [] x8 rfl;obtain⟨l,hl⟩:∃l,l=(List.range B.length).map (R7 B a q):=⟨_,rfl⟩
 have ll:l.length<=100:=by rw[hl];simp;lia
 rw[<-hl]at h
 delta rn gy at h
 refine⟨ER,?_⟩;have e1:ki [⟨.lst,F⟩] [.lst (B.map .int)]=some (.int (B.length:Nat)):=by show some (PV.int (((B.map PV.int).length:Nat):Int))=_;rw[aT]
 have e2:=My (n:=B.length) (by lia)
 have hF:=λρ v=>@aaT ρ F v (aR hF (by decide))
 simp only[dZ,<-Dj]at h;refine aY ?_;unfold xl;rw[<-hl];cases h1:C/49%2==1
 ·simp only[↓fA,h,e1,e2,yI,h1,hF,Bool.false_and,eF,cK,c6]
 ·cases h2:(q:Int)%2==1
  ·simp only[↓fA,h,e1,e2,yI,h1,h2,hF,vh,eF,cK,c6]
  ·simp only[↓fA,h,e1,e2,yI,h1,h2,hF,vh,eI,uD,Ji ll]
theorem rY(c:CT){x1:Option PV}{C:Int}(B:List Int)(a:Nat)(hB:B.length<=50):∀(qs:List Nat) (F:List PV) (x3 x7 x8:Option PV),F.length+qs.length<=100->∃x3' RY ER,gj (dh 3) (lx c) (qs.map λn:Nat=>.int (n:Int)) ⟨[some (.int C),x1,some R6,x3,some (.lst (B.map .int)),some (.int a),some (.ref 0),x7,x8],[⟨.lst,F⟩]⟩=some (.ok .nx,⟨[some (.int C),x1,some R6,x3',some (.lst (B.map .int)),some (.int a),some (.ref 0),RY,ER],[⟨.lst,F++qs.map λq=>.str (strOf (xl C B a q))⟩]⟩)
 | [],F,x3,x7,x8,_=>⟨x3,x7,x8,by simp;rfl⟩
 | q::qs,F,x3,x7,x8,hz=>by
  rw[cq]at hz;obtain⟨y8,h⟩:=ET c (x1:=x1) (C:=C) B a q hB (F:=F) (by lia) x7 x8
  obtain⟨z3,z7,z8,h2⟩:=rY c (x1:=x1) (C:=C) B a hB qs (F++[.str (strOf (xl C B a q))]) (some (.int q)) (some (.str (strOf (xl C B a q)))) y8 (by simp;lia)
  refine⟨z3,z7,z8,?_⟩;rw[aP,aP,show F++PV.str (strOf (xl C B a q))::qs.map (λq=>PV.str (strOf (xl C B a q)))=F++[PV.str (strOf (xl C B a q))]++qs.map (λq=>PV.str (strOf (xl C B a q))) by simp]
  exact fC (s1:=⟨[some (.int C),x1,some R6,some (.int q),some (.lst (B.map .int)),some (.int a),some (.ref 0),x7,x8],[⟨.lst,F⟩]⟩) rfl h h2
theorem MB{C:Int}{B:List Int}{a q q':Nat}(hp:a<B.length)(h1:q<26)(h2:q'<26)(h:strOf (xl C B a q)=strOf (xl C B a q')):q=q':=by
 have h:=uC h;have at_:∀q:Nat,(xl C B a q)[a]?=some (cp (B.getD a 0+(q:Int))):=λq=>by
  unfold xl;rw[fB (by simp;lia),cY,zB hp]
  simp[R7]
 have e:=dH (λl=>l[a]?) h
 simp only[at_]at e;have:=RZ (aZ e)
 lia
theorem R8{C:Int}{B:List Int}{a q:Nat}(h1:1<=B.length):strOf (xl C B a q)≠"":=λh=>by
 have h:strOf (xl C B a q)=strOf []:=h.trans Dj;have:=dH List.length (uC h);unfold xl at this;rw[bB,aT,pN]at this;have:B.length+_=0:=this
 lia
noncomputable def nmX(N:Nat->Str):List Str:=(List.range 6).map N
theorem MC(k:Nat)(C:Int):∃N:Nat->Str,(∀i j,i<6->j<6->N i=N j->i=j)/\(∀i,N i≠"")/\run aM (k+1) "_law_names" [.int C,.int 6] []=some (.ok (.ref 0),[⟨.lst,(nmX N).map .str⟩]):=by
 obtain⟨ln,SD⟩:∃ln:Nat,1+C%7=(ln:Int):=⟨(1+C%7).toNat,by lia⟩
 obtain⟨B,hB⟩:∃B:List Int,B=(List.range ln).map λi:Nat=>(C/7/((i:Int)*i+1)+5*(i:Int))%26:=⟨_,rfl⟩
 have Bl:B.length=ln:=by rw[hB];simp
 obtain⟨a,ha⟩:∃a:Nat,C/7%(ln:Int)=(a:Int):=⟨(C/7%(ln:Int)).toNat,(zD (ju _ (by lia))).symm⟩
 have hal:a<B.length:=by
  have:=pH (C/7) (show(0:Int)<(ln:Int) by lia)
  lia
 obtain⟨x3,x7,x8,h⟩:=rY (run aM k) (x1:=some (.int 6)) (C:=C) B a (by lia) (List.range 6) [] none none none (by simp)
 refine⟨λq=>strOf (xl C B a q),λi j hi hj e=>MB hal (by lia) (by lia) e,λi=>R8 (by lia),?_⟩
 have e1:=My (n:=ln) (by lia)
 have e2:∀i∈List.range ln,∀h,jO h (.int (i:Int)) (.int (i:Int))=some (.int ((i:Int)*i)):=λi hi h=>NR (.inl (by have:=u6.mp hi;have:(oy:Int)=18446744073709551616:=rfl;lia))
 have e3:∀i∈List.range ln,∀h (a:Int),gL h (.int a) (.int ((i:Int)*i+1))=some (.int (a/((i:Int)*i+1))):=λi hi h a=>by
  have hi:=u6.mp hi;have i0:(0:Int)<=(i:Int)*i:=Int.mul_nonneg (by lia) (by lia)
  have i49:(i:Int)*i<=49:=by
   rcases i with _ | _ | _ | _ | _ | _ | _ | _<;>first | lia | decide
  exact oV (by lia)
 have e4:∀i∈List.range ln,∀h,jO h (.int 5) (.int (i:Int))=some (.int (5*(i:Int))):=λi hi h=>NR (.inl (by decide))
 have e5:(List.range ln).length<=4000000:=by rw[pN];lia
 have e6:(List.range ln).map (λi:Nat=>PV.int ((C/7/((i:Int)*i+1)+5*(i:Int))%26))=B.map .int:=by rw[hB,jw];rfl
 have e7:∀h,cE h (.int (C/7)) (.int (ln:Int))=some (.int (a:Int)):=λh'=>by rw[gr (by lia),ha]
 have e8:∀(f:Nat->PV) h,ki h [.lst ((List.range ln).map f)]=some (.int (ln:Int)):=λf h'=>by show some (PV.int ((((List.range ln).map f).length:Nat):Int))=_;rw[aT,pN]
 have e9:xZ [.int 6]=some ((List.range 6).map λm:Nat=>.int (m:Int)):=My (n:=6) (by decide)
 delta lx gy at h
 rw[dG,<-e6]at h;rw[Bc];simp only[↓bM,SD,e1,e2,e3,e4,e5,e7,e8,e9,h,aT];rfl
end bI
set_option maxHeartbeats 4000000
namespace bI
open PySem L2 L2.U
noncomputable def gz(N:Nat->Str)(z y:Nat):Nm:=⟨N 0,N 1,N 2,N 3,N 4,N 5,z,y⟩
def ji(N:Nat->Str):PV:=.lst [.str (N 0),.str (N 1),.str (N 2),.str (N 3),.str (N 4),.str (N 5)]
def pA(z y:Nat):PV:=.lst [.int (z:Int),.int (y:Int)]
def JA(M:Nm):Sp->Prop
 | .i (.at i)=>i<M.z
 | .j (.at i)=>i<M.y
 | .c=>False
 | .s=>False
 | _=>True
def NS(M:Nm):Op->Prop
 | .num i=>Bd i
 | .sp s=>JA M s
theorem rZ(x:Int):Bd (x%sx):=⟨ju _ (by decide +kernel),pH _ (by decide +kernel)⟩
theorem JA.a{M:Nm}{V:Vs}(z:Vz M V){s:Sp}(h:JA M s):RD V s:=by
 cases s with
 | i x=>cases x with
  | «at» i=>exact(show i<V.c.length by rw[z.c];exact h)
  | _=>trivial
 | j x=>cases x with
  | «at» i=>exact(show i<V.s.length by rw[z.s];exact h)
  | _=>trivial
 | c=>exact h
 | s=>exact h
 | _=>trivial
theorem NS.a{M:Nm}{V:Vs}(K:oU M V){o:Op}(h:NS M o):Bj V o/\Bd (opV V o):=by
 cases o with
 | num i=>exact⟨trivial,h⟩
 | sp s =>
  refine⟨?_,NM K s⟩;have:=JA.a K.z h;cases s with
  | i x=>cases x<;>exact this
  | j x=>cases x<;>exact this
  | c=>exact this
  | s=>exact this
  | _=>trivial
theorem Jj(k:Int){n:Nat}(hn:0<n):∃p:Nat,k%(n:Int)=(p:Int)/\p<n:=⟨(k%(n:Int)).toNat,(zD (ju _ (by lia))).symm,by have:=pH k (show(0:Int)<n by lia);have:=ju k (show(n:Int)≠0 by lia);lia⟩
theorem fR{f g:Gx dJ}{n:Nat}{ps qs:List PV}{h:List aj}(e:f ⟨gk n ps,h⟩=some (.ok .nx,⟨gk n qs,h⟩)):gW (qF f g) n ps h=gW g n qs h:=by
 show(qF f g _).bind Nd=_;rw[show qF f g _=_ from eB e rfl]
 rfl
theorem Dl(c:Nat){N:Nat->Str}{z y:Nat}(K:bt (gz N z y))(k:Int):∃s,JA (gz N z y) s/\run aM (c+1) "_law_spot" [ji N,pA z y,.int k] []=some (.ok (gm (gz N z y) s),[]):=by
 have z1:1<=z:=K.z1;have y1:1<=y:=K.y1;obtain⟨m,hm⟩:∃m,k/6%8=m:=⟨_,rfl⟩
 obtain⟨p,hp,hpz⟩:=Jj m (n:=z) (by lia)
 obtain⟨q,hq,hqy⟩:=Jj m (n:=y) (by lia)
 have e1:∀h,gL h (.int k) (.int 6)=some (.int (k/6)):=λh=>oV (by decide)
 have e2:∀h,cE h (.int (k/6)) (.int 8)=some (.int m):=λh=>by rw[gr (by decide),hm]
 have e3:∀h,gL h (.int k) (.int 48)=some (.int (k/48)):=λh=>oV (by decide)
 have e4:∀h,cE h (.int m) (.int (z:Int))=some (.int (p:Int)):=λh=>by rw[gr (by lia),hp]
 have e5:∀h,cE h (.int m) (.int (y:Int))=some (.int (q:Int)):=λh=>by rw[gr (by lia),hq]
 have n1:∀h,mQ h .aL (.int m)=some (.bl false):=λh=>rfl
 have n2:∀h s,mQ h (.str s) (.int m)=some (.bl false):=λh s=>rfl
 have n3:∀h,mQ h (.int m) (.int m)=some (.bl true):=λh=>by rw[yI,eU]
 have n4:∀h,mQ h (.str (N 2)) (.str (N 4))=some (.bl false):=λh=>by rw[ph,show(N 2==N 4)=false from K.b (x:=.c) (y:=.e) (by decide)]
 have n5:∀h,mQ h (.str (N 4)) (.str (N 4))=some (.bl true):=λh=>by rw[ph,eU]
 have l3:∀a b d:PV,[a,b,d].length<=4000000:=λ_ _ _=>by simp
 have l6:∀a b d e f g:PV,[a,b,d,e,f,g].length<=4000000:=λ_ _ _ _ _ _=>by simp
 have M4:∀h a b d e,DQ h none (some 3) (.au [a,b,d,e])=some (.au [a,b,d]):=λh a b d e=>rfl
 obtain⟨x,w,i,h3,e6,hw⟩:∃(x:Ix) (w:PV) (i:Int),k/48%3=i/\(∀h,bu h (.lst [.int m,.str (N 0),.str (N 1)]) (.int i)=some w)/\((w=.int m)\/(∃s,w=.str s)/\w=yL (gz N z y) x/\JA (gz N z y) (.i x)/\JA (gz N z y) (.j x)):=by
  rcases(by lia : k/48%3=0\/k/48%3=1\/k/48%3=2)with h | h | h
  ·exact⟨.a,_,_,h,λ_=>rfl,.inl rfl⟩
  ·exact⟨.a,_,_,h,λ_=>rfl,.inr ⟨⟨_,rfl⟩,rfl,trivial,trivial⟩⟩
  ·exact⟨.b,_,_,h,λ_=>rfl,.inr ⟨⟨_,rfl⟩,rfl,trivial,trivial⟩⟩
 have e7:∀h,cE h (.int (k/48)) (.int 3)=some (.int i):=λh=>by rw[gr (by decide),h3]
 obtain⟨S3,JB⟩:∃S:List PV,S=[.au [.str (N 0),.bl false,.au [],.aL],.au [.str (N 1),.bl false,.au [],.aL],.au [.str (N 2),.bl false,.au [],w]]:=⟨_,rfl⟩
 obtain⟨S6,Sb⟩:∃S:List PV,S=S3++[.au [.str (N 3),.bl false,.au [],.aL],.au [.str (N 4),.bl false,.au [.int 0],.aL],.au [.str (N 4),.bl false,.au [.int 1],w]]:=⟨_,rfl⟩
 rw[EA,fR (qs:=[ji N,pA z y,.int k,w]),fR (qs:=[ji N,pA z y,.int k,w,.lst S3]),fR (qs:=[ji N,pA z y,.int k,w,.lst S6])]
 rotate_left
 ·rw[Sb,JB];exact aY (by simp only[↓fA,ji,l3];rfl)
 ·rw[JB];exact aY (by simp only[↓fA,ji,l3];rfl)
 ·exact aY (by simp only[↓fA,ji,e1,e2,e3,e6,e7,l3];rfl)
 have WY:(∃(s:Sp) (X:Str) (P:PV) (t:Int),JA (gz N z y) s/\k%6=t/\(∀h,bu h (.lst S6) (.int t)=some (.au [.str X,.bl false,P,.aL]))/\gm (gz N z y) s=.au [.str X,.bl false,P,.aL])\/k%6=2\/k%6=5:=by
  rcases(by lia : k%6=0\/k%6=1\/k%6=2\/k%6=3\/k%6=4\/k%6=5)with h | h | h | h | h | h
  ·exact .inl ⟨.a,_,_,_,trivial,h,λg=>by rw[Sb,JB];rfl,rfl⟩
  ·exact .inl ⟨.b,_,_,_,trivial,h,λg=>by rw[Sb,JB];rfl,rfl⟩
  ·exact .inr (.inl h)
  ·exact .inl ⟨.d,_,_,_,trivial,h,λg=>by rw[Sb,JB];rfl,rfl⟩
  ·exact .inl ⟨.n,_,_,_,trivial,h,λg=>by rw[Sb,JB];rfl,rfl⟩
  ·exact .inr (.inr h)
 rcases WY with⟨s,X,P,t,hs,h1,h2,h3⟩ | h | h
 ·have e8:∀g,cE g (.int k) (.int 6)=_:=λg=>by rw[gr (by decide),h1]
  refine⟨s,hs,?_⟩;rw[h3];simp only[↓bM,e1,e2,e8,h2,n1]
 ·have e8:∀g,cE g (.int k) (.int 6)=_:=λg=>by rw[gr (by decide),h]
  have e9:∀g,bu g (.lst S6) (.int 2)=some (.au [.str (N 2),.bl false,.au [],w]):=λg=>by rw[Sb,JB];rfl
  rcases hw with rfl | ⟨⟨s,rfl⟩,hx,w1,w2⟩
  ·exact⟨.i (.at p),hpz,by simp only[↓bM,ji,pA,e1,e2,e4,e8,e9,n3,n4,M4];rfl⟩
  ·refine⟨.i x,w1,?_⟩;rw[show gm (gz N z y) (.i x)=.au [.str (N 2),.bl false,.au [],.str s] by rw[hx];rfl]
   simp only[↓bM,e1,e2,e8,e9,n2]
 ·have e8:∀g,cE g (.int k) (.int 6)=_:=λg=>by rw[gr (by decide),h]
  have e9:∀g,bu g (.lst S6) (.int 5)=some (.au [.str (N 4),.bl false,.au [.int 1],w]):=λg=>by rw[Sb,JB];rfl
  rcases hw with rfl | ⟨⟨s,rfl⟩,hx,w1,w2⟩
  ·exact⟨.j (.at q),hqy,by simp only[↓bM,ji,pA,e1,e2,e5,e8,e9,n3,n5,M4];rfl⟩
  ·refine⟨.j x,w2,?_⟩;rw[show gm (gz N z y) (.j x)=.au [.str (N 4),.bl false,.au [.int 1],.str s] by rw[hx];rfl]
   simp only[↓bM,e1,e2,e8,e9,n2]
theorem r6(c:Nat){N:Nat->Str}{z y:Nat}(K:bt (gz N z y))(k q:Int):∃o,NS (gz N z y) o/\run aM (c+2) "_law_operand" [ji N,pA z y,.int k,.int q] []=some (.ok (gX (gz N z y) o),[]):=by
 have e4:=λh=>IF (h:=h)
 have e5:=λh x=>rM (h:=h) (x:=x)
 have e1:∀h,jO h (.int q) (.int 982451653)=some (.int (q*982451653)):=λh=>NR (.inr (by decide))
 have e3:∀h,gL h (.int k) (.int 3)=some (.int (k/3)):=λh=>oV (by decide)
 have m3:∀h x,cE h (.int x) (.int 3)=some (.int (x%3)):=λh x=>gr (by decide)
 have q0:∀h x,mQ h (.int x) (.int 0)=some (.bl (x==0)):=λh x=>rfl
 obtain⟨s,hs,e7⟩:=Dl c K (k/3);have nr:∀x:Int,ao [ji N,pA z y,.int x]=true:=λ_=>rfl
 rw[wG];cases h1:k%3==0
 ·exact⟨.sp s,hs,by simp only[↓bM,e1,e3,e4,e5,m3,q0,h1,e7,nr,bT,bQ];rfl⟩
 ·exact⟨.num _,rZ _,by simp only[↓bM,e1,e3,e4,e5,m3,q0,h1];rfl⟩
end bI
set_option maxHeartbeats 4000000
namespace bI
open PySem L2 L2.U
def MD(M:Nm):Rw->Prop
 | .put s o=>JA M s/\NS M o
 | .fill s o=>(s=.c\/s=.s)/\NS M o
 | .set s _ o p=>JA M s/\NS M o/\NS M p
 | .dR s t=>(EI s=true/\EI t=true)\/(IS s=true/\IS t=true/\NG M s=NG M t)
 | .fP _=>True
 | .jV o=>NS M o
 | _=>False
theorem aaU(k:Int):k%2=0\/k%2=1:=by lia
theorem ME(k:Int):k%3=0\/k%3=1\/k%3=2:=by lia
theorem Jk(N:Nat->Str)(z y:Nat)(k:Int):∃i s,k%2=i/\(s=.c\/s=.s)/\∀h,bu h (.lst [.au [.str (N 2),.bl false,.au [],.aL],.au [.str (N 4),.bl false,.au [.int 1],.aL]]) (.int i)=some (gm (gz N z y) s):=by
 rcases aaU k with h | h
 ·exact⟨_,.c,h,.inl rfl,λ_=>rfl⟩
 ·exact⟨_,.s,h,.inr rfl,λ_=>rfl⟩
theorem NT(N:Nat->Str)(z y:Nat)(k:Int):∃i s,k%3=i/\EI s=true/\∀h,bu h (.lst [.au [.str (N 0),.bl false,.au [],.aL],.au [.str (N 1),.bl false,.au [],.aL],.au [.str (N 4),.bl false,.au [.int 0],.aL]]) (.int i)=some (gm (gz N z y) s):=by
 rcases ME k with h | h | h
 ·exact⟨_,.a,h,rfl,λ_=>rfl⟩
 ·exact⟨_,.b,h,rfl,λ_=>rfl⟩
 ·exact⟨_,.n,h,rfl,λ_=>rfl⟩
theorem EU(c:Nat){N:Nat->Str}{z y:Nat}(k:Int):∃r,MD (gz N z y) r/\run aM (c+1) "_law_copied" [ji N,pA z y,.int k] []=some (.ok (bK (gz N z y) r),[]):=by
 have d3:∀h,gL h (.int k) (.int 3)=some (.int (k/3)):=λh=>oV (by decide)
 have d6:∀h,gL h (.int k) (.int 6)=some (.int (k/6)):=λh=>oV (by decide)
 have d9:∀h,gL h (.int k) (.int 9)=some (.int (k/9)):=λh=>oV (by decide)
 obtain⟨i1,s1,h1,q1,e1⟩:=Jk N z y (k/3);obtain⟨i2,s2,h2,q2,e2⟩:=Jk N z y (k/6);obtain⟨i3,s3,h3,q3,e3⟩:=NT N z y (k/3);obtain⟨i4,s4,h4,q4,e4⟩:=NT N z y (k/9);have f1:∀h,cE h (.int (k/3)) (.int 2)=some (.int i1):=λh=>by rw[gr (by decide),h1]
 have f2:∀h,cE h (.int (k/6)) (.int 2)=some (.int i2):=λh=>by rw[gr (by decide),h2]
 have f3:∀h,cE h (.int (k/3)) (.int 3)=some (.int i3):=λh=>by rw[gr (by decide),h3]
 have f4:∀h,cE h (.int (k/9)) (.int 3)=some (.int i4):=λh=>by rw[gr (by decide),h4]
 have i3b:∃x:N5,∀h,(gK h (.int 2) (.int i3)).bind (λj=>bu h (ji N) j)=some (.str ((gz N z y).n x)):=by
  rcases ME (k/3)with h | h | h<;>(rw[h]at h3;subst h3)
  ·exact⟨.c,λ_=>rfl⟩
  ·exact⟨.d,λ_=>rfl⟩
  ·exact⟨.e,λ_=>rfl⟩
 obtain⟨x,e5⟩:=i3b;have e5:∃j,(∀h,gK h (.int 2) (.int i3)=some (.int j))/\∀h,bu h (ji N) (.int j)=some (.str ((gz N z y).n x)):=⟨2+i3,λ_=>rfl,λh=>e5 h⟩
 obtain⟨j,e5,e6⟩:=e5;have e7:∀h,bu h (ji N) (.int 0)=some (.str (N 0)):=λ_=>rfl
 have e8:∀h,bu h (ji N) (.int 1)=some (.str (N 1)):=λ_=>rfl
 have e9:∀h,bu h (ji N) (.int 2)=some (.str (N 2)):=λ_=>rfl
 have e10:∀h,bu h (ji N) (.int 4)=some (.str (N 4)):=λ_=>rfl
 have l2:∀a b:PV,[a,b].length<=4000000:=λ_ _=>by simp
 have l3:∀a b d:PV,[a,b,d].length<=4000000:=λ_ _ _=>by simp
 have q0:∀h,mQ h (.int (z:Int)) (.int (y:Int))=some (.bl ((z:Int)==(y:Int))):=λh=>rfl
 have t0:∀h,mQ h (.int (0:Int)) (.int 0)=some (.bl true):=λh=>rfl
 rw[yF];rcases ME k with h | h | h
 all_goals have m3:∀g,cE g (.int k) (.int 3)=_:=λg=>by rw[gr (by decide),h]
 ·cases hzy:(z:Int)==(y:Int)
  ·exact⟨.dR s3 s4,.inl ⟨q3,q4⟩,by simp only[↓bM,pA,d3,d9,f3,f4,m3,e3,e4,e7,e8,e9,e10,l2,l3,q0,hzy];rfl⟩
  ·have WZ:z=y:=by have:=iF.mp hzy;lia
   refine⟨.dR s1 s2,.inr ⟨by rcases q1 with rfl | rfl<;>rfl,by rcases q2 with rfl | rfl<;>rfl,by rcases q1 with rfl | rfl<;>rcases q2 with rfl | rfl<;>first | rfl | exact WZ | exact WZ.symm⟩,by simp only[↓bM,pA,d3,d6,f1,f2,m3,e1,e2,e7,e8,e9,e10,l2,l3,q0,hzy];rfl⟩
 ·exact⟨.fP x,trivial,by simp only[↓bM,pA,d3,f3,m3,e5,e6,e7,e8,e9,e10,l2,l3,q0];rfl⟩
 ·exact⟨.dR s3 s4,.inl ⟨q3,q4⟩,by simp only[↓bM,pA,d3,d9,f3,f4,m3,e3,e4,e7,e8,e9,e10,l2,l3,q0];rfl⟩
end bI
set_option maxHeartbeats 4000000
namespace bI
open PySem L2 L2.U
theorem Sd(c:Nat){N:Nat->Str}{z y:Nat}(K:bt (gz N z y))(k:Int):∃r,MD (gz N z y) r/\run aM (c+3) "_law_row" [ji N,pA z y,.int k] []=some (.ok (bK (gz N z y) r),[]):=by
 have w1:∀h,jO h (.int k) (.int 48271)=some (.int (k*48271)):=λh=>NR (.inr (by decide))
 have w2:∀h,jO h (.int k) (.int 69621)=some (.int (k*69621)):=λh=>NR (.inr (by decide))
 have w3:∀h,jO h (.int k) (.int 16807)=some (.int (k*16807)):=λh=>NR (.inr (by decide))
 obtain⟨c0,hc0⟩:∃c0,k*48271%2147483647=c0:=⟨_,rfl⟩
 obtain⟨c1,Zo⟩:∃c0,k*69621%2147483629=c0:=⟨_,rfl⟩
 obtain⟨c2,OY⟩:∃c0,k*16807%2147483587=c0:=⟨_,rfl⟩
 have v1:∀h,cE h (.int (k*48271)) (.int 2147483647)=some (.int c0):=λh=>by rw[gr (by decide),hc0]
 have v2:∀h,cE h (.int (k*69621)) (.int 2147483629)=some (.int c1):=λh=>by rw[gr (by decide),Zo]
 have v3:∀h,cE h (.int (k*16807)) (.int 2147483587)=some (.int c2):=λh=>by rw[gr (by decide),OY]
 obtain⟨o,ho,eo⟩:=r6 c K c1 k;obtain⟨p,hp,ep⟩:=r6 c K c2 (k+1);obtain⟨s,hs,es⟩:=Dl (c+1) K c0;obtain⟨r,hr,ec⟩:=EU (c+1) (N:=N) (z:=z) (y:=y) c0;have l3:∀a b d:PV,[a,b,d].length<=4000000:=λ_ _ _=>by simp
 have nr1:∀x y':Int,ao [ji N,pA z y,.int x,.int y']=true:=λ_ _=>rfl
 have WI:∀x:Int,ao [ji N,pA z y,.int x]=true:=λ_=>rfl
 obtain⟨n,hn,n0,n9⟩:∃n,k%9=n/\0<=n/\n<9:=⟨_,rfl,by lia,by lia⟩
 have v9:∀h,cE h (.int k) (.int 9)=some (.int n):=λh=>by rw[gr (by decide),hn]
 have qq:∀h (j:Int),mQ h (.int n) (.int j)=some (.bl (n==j)):=λh j=>rfl
 have tt:∀h (j:Int),UC h (.int n) (.int j)=some (.bl (decide (n<j))):=λh j=>rfl
 have d9:∀h,gL h (.int k) (.int 9)=some (.int (k/9)):=λh=>oV (by decide)
 obtain⟨g,i,hi,eg⟩:∃g i,k/9%3=i/\∀h,bu h (.str "+-*") (.int i)=some (.str (CP g)):=by
  rcases ME (k/9)with h | h | h
  ·exact⟨.add,_,h,λ_=>rfl⟩
  ·exact⟨.sub,_,h,λ_=>rfl⟩
  ·exact⟨.mul,_,h,λ_=>rfl⟩
 have m3:∀h,cE h (.int (k/9)) (.int 3)=some (.int i):=λh=>by rw[gr (by decide),hi]
 obtain⟨i2,s2,h2,q2,e2⟩:=Jk N z y c0;have m2:∀h,cE h (.int c0) (.int 2)=some (.int i2):=λh=>by rw[gr (by decide),h2]
 have e9:∀h,bu h (ji N) (.int 2)=some (.str (N 2)):=λ_=>rfl
 have e10:∀h,bu h (ji N) (.int 4)=some (.str (N 4)):=λ_=>rfl
 have l2:∀a b:PV,[a,b].length<=4000000:=λ_ _=>by simp
 have ad:∀h,gK h (.int k) (.int 1)=some (.int (k+1)):=λh=>rfl
 rw[Ik,fR (qs:=[ji N,pA z y,.int k,.lst [.int c0,.int c1,.int c2]]),fR (qs:=[ji N,pA z y,.int k,.lst [.int c0,.int c1,.int c2],gX (gz N z y) o])]
 rotate_left
 ·exact aY (by simp only[↓fA,eo,nr1];rfl)
 ·exact aY (by simp only[↓fA,w1,w2,w3,v1,v2,v3,l3];rfl)
 rcases(by lia : (n=0\/n=1)\/(n=2\/n=3\/n=4)\/n=5\/n=6\/(n=7\/n=8))with h | h | rfl | rfl | h
 ·have b1:decide (n<2)=true:=by rcases h with rfl | rfl<;>rfl
  exact⟨.put s o,⟨hs,ho⟩,by simp only[↓bM,v9,tt,b1,es,WI];rfl⟩
 ·have b1:decide (n<2)=false:=by rcases h with rfl | rfl | rfl<;>rfl
  have b2:decide (n<5)=true:=by rcases h with rfl | rfl | rfl<;>rfl
  exact⟨.set s g o p,⟨hs,ho,hp⟩,by simp only[↓bM,v9,tt,b1,b2,es,ep,nr1,WI,ad,eg,m3,d9];rfl⟩
 ·exact⟨.fill s2 o,⟨q2,ho⟩,by simp only[↓bM,v9,m2,e2,e9,e10,l2];rfl⟩
 ·exact⟨r,hr,by simp only[↓bM,v9,ec,WI]⟩
 ·have b1:decide (n<2)=false:=by rcases h with rfl | rfl<;>rfl
  have b2:decide (n<5)=false:=by rcases h with rfl | rfl<;>rfl
  have b3:(n==5)=false:=by rcases h with rfl | rfl<;>rfl
  have b4:(n==6)=false:=by rcases h with rfl | rfl<;>rfl
  exact⟨.jV o,ho,by simp only[↓bM,v9,qq,tt,b1,b2,b3,b4];rfl⟩
end bI
set_option maxHeartbeats 4000000
namespace bI
open PySem L2 L2.U
noncomputable def cell(ns:List Int)(i:Nat):Int:=ns.getD i 0
theorem se(k:Nat)(ns:List Int)(i:Nat):run aM (k+1) "_law_cell_at" [pd ns,.int (i:Int)] []=some (.ok (.int (cell ns i)),[]):=by
 rw[wF];have ln:ki [] [pd ns]=some (.int (ns.length:Int)):=by
  show some (PV.int (((ns.map PV.int).length:Nat):Int))=_;rw[aT]
 unfold cell;rw[jm];by_cases hi:i<ns.length
 ·have e:bu [] (pd ns) (.int (i:Int))=some (.int ns[i]):=atI_nat (by rw[cY,dU hi];rfl)
  simp only[↓bM,ln,e,dW (show(i:Int)<(ns.length:Int) by lia),dU hi,Option.getD_some]
 ·simp only[↓bM,ln,cZ (show ¬(i:Int)<(ns.length:Int) by lia),uK (zR hi),zN]
theorem Se{ns:List Int}(hl:ns.length<=63):∃ms:List Int,ms.length<=63/\∀h,DQ h (some 5) (some 25) (pd ns)=some (.lst (ms.map .int)):=by
 refine⟨(ns.drop (HT.ee ns.length 0 (some 5))).take (HT.ee ns.length ns.length (some 25)-HT.ee ns.length 0 (some 5)),?_,λh=>?_⟩
 ·rw[kM,zL]
  lia
 show some (PV.lst (je (ns.map PV.int) (some 5) (some 25)))=_;unfold je;rw[aT,vi,vd]
def Jl(x y w:Int):List Rw:=[.put .b (.num x),.fill .c (.num y),.put .d (.num w),.put .n (.sp .a),.fill .s (.sp .a)]
def mO(t:Nat)(x y w:Int):List Rw:=(Jl x y w).drop t++(Jl x y w).take t
theorem Dn{t:Nat}(ht:t<5){x y w:Int}:(mO t x y w).length=5:=by
 rcases(by lia : t=0\/t=1\/t=2\/t=3\/t=4)with rfl | rfl | rfl | rfl | rfl<;>rfl
theorem NU{M:Nm}{r:Rw}(h:MD M r):LnR r:=by
 cases r with
 | put s o=>exact .inl (by simp[xj])
 | fill s o=>exact .inl (by simp[xj])
 | set s g o p=>exact .inl (by simp[xj])
 | dR s t=>exact .inr (.inl ⟨s,t,rfl⟩)
 | fP x=>exact .inr (.inr (.inl ⟨x,rfl⟩))
 | jV o=>exact .inr (.inr (.inr ⟨o,rfl⟩))
 | _=>exact absurd h id
theorem Sf{M:Nm}{r:Rw}(hm:MD M r):(∀V,oU M V->rR M V r)/\RS M r:=by
 cases r with
 | put s o=>exact⟨λV K=>⟨λp hp=>by rw[bh.mp hp];exact hm.2.a K,(λt ht=>by cases ht;exact .inl ⟨⟨_,rfl⟩,hm.1.a K.z⟩),(λ_ _ z=>by cases z),(λz=>by cases z)⟩,trivial⟩
 | fill s o=>exact⟨λV K=>⟨λp hp=>by rw[bh.mp hp];exact hm.2.a K,(λt ht=>by cases ht;exact .inr (.inl ⟨⟨_,rfl⟩,hm.1⟩)),(λ_ _ z=>by cases z),(λz=>by cases z)⟩,trivial⟩
 | set s g o p=>exact⟨λV K=>⟨λq hq=>by
    simp only[bX,aG,bG,bH]at hq;rcases hq with rfl | rfl
    ·exact hm.2.1.a K
    ·exact hm.2.2.a K,(λt ht=>by cases ht;exact .inr (.inr ⟨⟨_,_,_,rfl⟩,hm.1.a K.z⟩)),(λ_ _ z=>by cases z),(λz=>by cases z)⟩,trivial⟩
 | dR s t=>exact⟨λV K=>⟨(λp hp=>by cases hp),(λt ht=>by cases ht),(λa b z=>by cases z;exact hm.imp id λh=>⟨h.1,h.2.1⟩),(λz=>by cases z)⟩,hm⟩
 | fP x=>exact⟨λV K=>⟨(λp hp=>by cases hp),(λt ht=>by cases ht),(λ_ _ z=>by cases z),(λz=>by cases z)⟩,trivial⟩
 | jV o=>exact⟨λV K=>⟨λp hp=>by rw[bh.mp hp];exact hm.a K,(λt ht=>by cases ht),(λ_ _ z=>by cases z),(λz=>by cases z)⟩,trivial⟩
 | _=>exact absurd hm id
theorem H9{M:Nm}{R:List Rw}{x y w:Int}{t:Nat}(ht:t<5)(hx:Bd x)(hy:Bd y)(hw:Bd w)(hR:∀r∈R,MD M r):oH M (mO t x y w++R++[Rw.dr])/\w5 (mO t x y w++R++[Rw.dr]) (R.length+5):=by
 have hl:=Dn ht (x:=x) (y:=y) (w:=w);have len:(mO t x y w++R++[Rw.dr]).length=R.length+5+1:=by simp[hl];lia
 have hF:∀r∈mO t x y w++R,MD M r:=λr hr=>by
  rcases cH.mp hr with hr | hr
  ·have hr:r∈Jl x y w:=by
    rcases cH.mp hr with hr | hr
    ·exact uP hr
    ·exact uO hr
   simp only[Jl,aG,bG,bH]at hr;rcases hr with rfl | rfl | rfl | rfl | rfl
   ·exact⟨trivial,hx⟩
   ·exact⟨.inl rfl,hy⟩
   ·exact⟨trivial,hw⟩
   ·exact⟨trivial,trivial⟩
   ·exact⟨.inr rfl,trivial⟩
  ·exact hR r hr
 have at_:∀k,k<R.length+5->∃r,(mO t x y w++R++[Rw.dr])[k]?=some r/\MD M r:=λk hk=>by
  have h:k<(mO t x y w++R).length:=by rw[bB,hl];lia
  exact⟨(mO t x y w++R)[k],by rw[fB h,dU h],hF _ (zP h)⟩
 refine⟨⟨⟨t,ht,λi hi=>?_⟩,λi r hr hg=>?_⟩,len,?_,λk hk=>?_⟩
 ·have e:(mO t x y w++R++[Rw.dr])[i]?=(mO t x y w)[i]?:=by rw[js,fB (by lia)]
  rw[e];rcases(by lia : t=0\/t=1\/t=2\/t=3\/t=4)with rfl | rfl | rfl | rfl | rfl<;>rcases(by lia : i=0\/i=1\/i=2\/i=3\/i=4)with rfl | rfl | rfl | rfl | rfl<;>first | exact⟨_,rfl,.b x hx⟩ | exact⟨_,rfl,.c y hy⟩ | exact⟨_,rfl,.d w hw⟩ | exact⟨_,rfl,.n⟩ | exact⟨_,rfl,.s⟩
 ·have hi:i<R.length+5:=by
   by_cases h:i<R.length+5
   ·exact h
   ·rw[jl (by rw[bB,hl];lia)]at hr
    cases bh.mp (uM hr);exact absurd rfl hg
  obtain⟨r',hr',hm⟩:=at_ i hi;cases hr.symm.trans hr';obtain⟨h1,h2⟩:=Sf hm;exact⟨h1,h2,λV=>by rw[(zb (NU hm) V i).1,len];lia⟩
 ·rw[jl (by rw[bB,hl];lia),bB,hl,show R.length+5-(5+R.length)=0 by lia]
  rfl
 ·obtain⟨r,h1,h2⟩:=at_ k hk;exact⟨r,h1,NU h2⟩
end bI
set_option maxHeartbeats 4000000
namespace bI
open PySem L2 L2.U
theorem Dp(l:List Int):ao (l.map PV.int)=true:=gq (λ_=>rfl) l
theorem zg(c:Nat){N:Nat->Str}{z y:Nat}(K:bt (gz N z y)){x0 x2 x4 x5 x6 x8:Option PV}{h0:List aj}(h4:h0.length=5):∀(L:List Int) (F:List PV) (x9:Option PV),F.length+L.length<=100 ->
  ∃(R:List Rw) (x9':Option PV),(∀r∈R,MD (gz N z y) r)/\R.length=L.length/\gj (dh 9) (iS (run aM (c+3))) (L.map .int) ⟨[x0,some (ji N),x2,some (pA z y),x4,x5,x6,some (.ref 5),x8,x9],h0++[⟨.lst,F⟩]⟩=some (.ok .nx,⟨[x0,some (ji N),x2,some (pA z y),x4,x5,x6,some (.ref 5),x8,x9'],h0++[⟨.lst,F++R.map (bK (gz N z y))⟩]⟩)
 | [],F,x9,_=>⟨[],x9,(λ_ h=>by cases h),rfl,by rw[dZ,dZ,c6];rfl⟩
 | k::L,F,x9,hl=>by
  rw[cq]at hl;obtain⟨r,hr,er⟩:=Sd c K k;obtain⟨R,x9',h1,h2,h3⟩:=zg c K h4 (x0:=x0) (x2:=x2) (x4:=x4) (x5:=x5) (x6:=x6) (x8:=x8) L (F++[bK (gz N z y) r]) (some (.int k)) (by simp;lia)
  refine⟨r::R,x9',?_,by simp[h2],?_⟩
  ·intro q hq;rcases aG.mp hq with rfl | hq
   ·exact hr
   ·exact h1 q hq
  have ap:∀ρ v,fu (dN fw) (.ref 5) [v] ⟨ρ,h0++[⟨.lst,F⟩]⟩=some (.ok .aL,⟨ρ,h0++[⟨.lst,F++[v]⟩]⟩):=λρ v=>by
   have:=wN (h:=h0) (L:=F) (v:=v) (ρ:=ρ) (by lia)
   rw[h4]at this;exact this
  have d1:cQ (h0++[⟨.lst,F⟩]) (.ref 5)=some (.lst,F):=ak (by rw[<-h4];exact cX) rfl
  have nr4:ao [ji N,pA z y,.int k]=true:=rfl;rw[aP,aP,show F++bK (gz N z y) r::R.map (bK (gz N z y))=F++[bK (gz N z y) r]++R.map (bK (gz N z y)) by simp]
  refine fC (s1:=⟨[x0,some (ji N),x2,some (pA z y),x4,x5,x6,some (.ref 5),x8,some (.int k)],h0++[⟨.lst,F⟩]⟩) (s2:=⟨[x0,some (ji N),x2,some (pA z y),x4,x5,x6,some (.ref 5),x8,some (.int k)],h0++[⟨.lst,F++[bK (gz N z y) r]⟩]⟩) rfl ?_ h3;refine aY ?_
  delta iS gy
  simp only[↓fA,er,ap,d1,nr4,bT,bQ]
end bI
set_option maxHeartbeats 4000000
namespace bI
open PySem L2 L2.U
theorem BA(c:Nat){ns:List Int}(hl:ns.length<=63):∃(M:Nm) (F:List Rw) (L:Nat) (h':List aj),bt M/\oH M F/\w5 F L/\L<=68/\run aM (c+5) "_law_program" [pd ns] []=some (.ok (.au [fdP M F]),h'):=by
 obtain⟨N,hN,hN0,en⟩:=MC (c+3) (cell ns 0);obtain⟨z,hz,z1,z8⟩:∃z:Nat,1+cell ns 1%8=(z:Int)/\1<=z/\z<=8:=⟨(1+cell ns 1%8).toNat,by lia,by lia,by lia⟩
 obtain⟨y,hy,y1,y8⟩:∃z:Nat,1+cell ns 1/8%8=(z:Int)/\1<=z/\z<=8:=⟨(1+cell ns 1/8%8).toNat,by lia,by lia,by lia⟩
 have K:bt (gz N z y):=⟨λ{p q} e=>by
  have go:∀x:N5,∃i:Nat,i<5/\(gz N z y).n x=N i/\∀w:N5,(gz N z y).n w=N i->x=w:=λx=>by
   have ne:∀i j:Nat,i<6->j<6->i≠j->N j≠N i:=λi j hi hj h e=>h (hN j i hj hi e).symm
   cases x
   ·exact⟨0,by decide,rfl,λw hw=>by cases w<;>first | rfl | exact absurd hw (ne _ _ (by decide) (by decide) (by decide))⟩
   ·exact⟨1,by decide,rfl,λw hw=>by cases w<;>first | rfl | exact absurd hw (ne _ _ (by decide) (by decide) (by decide))⟩
   ·exact⟨2,by decide,rfl,λw hw=>by cases w<;>first | rfl | exact absurd hw (ne _ _ (by decide) (by decide) (by decide))⟩
   ·exact⟨3,by decide,rfl,λw hw=>by cases w<;>first | rfl | exact absurd hw (ne _ _ (by decide) (by decide) (by decide))⟩
   ·exact⟨4,by decide,rfl,λw hw=>by cases w<;>first | rfl | exact absurd hw (ne _ _ (by decide) (by decide) (by decide))⟩
  obtain⟨i,_,h1,h2⟩:=go p;exact h2 _ (e.symm.trans h1),λx=>by cases x<;>exact hN0 _,z1,z8,y1,y8⟩
 obtain⟨cs,hc,esl⟩:=Se hl;obtain⟨f,hf⟩:∃f,cell ns 2%sx=f:=⟨_,rfl⟩
 have bf:Bd f:=by rw[<-hf];exact rZ _
 obtain⟨t,ht,ht5⟩:=Jj (cell ns 1/64) (n:=5) (by decide)
 obtain⟨v,hv⟩:∃u,f*7%sx=u:=⟨_,rfl⟩
 obtain⟨w,hw⟩:∃u,f*f%sx=u:=⟨_,rfl⟩
 have bv:Bd v:=by rw[<-hv];exact rZ _
 have bw:Bd w:=by rw[<-hw];exact rZ _
 have e0:run aM (c+4) "_law_cell_at" [pd ns,.int 0] []=some (.ok (.int (cell ns 0)),[]):=se (c+3) ns 0;have e1:run aM (c+4) "_law_cell_at" [pd ns,.int 1] []=some (.ok (.int (cell ns 1)),[]):=se (c+3) ns 1;have e2:run aM (c+4) "_law_cell_at" [pd ns,.int 2] []=some (.ok (.int (cell ns 2)),[]):=se (c+3) ns 2;have en2:iu [⟨.lst,(nmX N).map .str⟩] (.ref 0)=some (ji N):=rH (gq (λ_=>rfl) _)
 have m8:∀h x,cE h (.int x) (.int 8)=some (.int (x%8)):=λh x=>gr (by decide)
 have f8:∀h,gL h (.int (cell ns 1)) (.int 8)=some (.int (cell ns 1/8)):=λh=>oV (by decide)
 have a1:∀h,gK h (.int 1) (.int (cell ns 1%8))=some (.int (z:Int)):=λh=>by show some (PV.int (1+cell ns 1%8))=_;rw[hz]
 have a2:∀h,gK h (.int 1) (.int (cell ns 1/8%8))=some (.int (y:Int)):=λh=>by show some (PV.int (1+cell ns 1/8%8))=_;rw[hy]
 have p30:=λh=>IF (h:=h)
 have mf:∀h,cE h (.int (cell ns 2)) (.int sx)=some (.int f):=λh=>by rw[rM,hf]
 have d64:∀h,gL h (.int (cell ns 1)) (.int 64)=some (.int (cell ns 1/64)):=λh=>oV (by decide)
 have m5:∀h,cE h (.int (cell ns 1/64)) (.int 5)=some (.int (t:Int)):=λh=>by rw[gr (by decide)];exact dH _ (dH _ ht)
 have t7:∀h,jO h (.int f) (.int 7)=some (.int (f*7)):=λh=>NR (.inr (by decide))
 have tf:∀h,jO h (.int f) (.int f)=some (.int (f*f)):=λh=>IH bf bf
 have mv:∀h,cE h (.int (f*7)) (.int sx)=some (.int v):=λh=>by rw[rM,hv]
 have mw:∀h,cE h (.int (f*f)) (.int sx)=some (.int w):=λh=>by rw[rM,hw]
 have l2:∀a b:PV,[a,b].length<=4000000:=λ_ _=>by simp
 have SX:∀x:Int,ao [pd ns,.int x]=true:=λx=>by
  show(noRef (.lst (ns.map PV.int))&&_)=true;rw[rD (Dp ns)];rfl
 have i0:∀h,bu h (ji N) (.int 0)=some (.str (N 0)):=λ_=>rfl
 have i1:∀h,bu h (ji N) (.int 1)=some (.str (N 1)):=λ_=>rfl
 have i2:∀h,bu h (ji N) (.int 2)=some (.str (N 2)):=λ_=>rfl
 have i3:∀h,bu h (ji N) (.int 3)=some (.str (N 3)):=λ_=>rfl
 have i4:∀h,bu h (ji N) (.int 4)=some (.str (N 4)):=λ_=>rfl
 have i5:∀h,bu h (ji N) (.int 5)=some (.str (N 5)):=λ_=>rfl
 suffices H:∃R:List Rw,(∀r∈R,MD (gz N z y) r)/\R.length=cs.length/\∃h',run aM (c+5) "_law_program" [pd ns] []=some (.ok (.au [fdP (gz N z y) (mO t f v w++R++[Rw.dr])]),h') by
  obtain⟨R,h1,h2,h',h3⟩:=H;obtain⟨P,W⟩:=H9 ht5 bf bv bw h1;exact⟨gz N z y,_,_,h',K,P,W,by lia,h3⟩
 obtain⟨A,hA⟩:∃A,A=bK (gz N z y) (.put .b (.num f)):=⟨_,rfl⟩
 obtain⟨B,hB⟩:∃A,A=bK (gz N z y) (.fill .c (.num v)):=⟨_,rfl⟩
 obtain⟨D,hD⟩:∃A,A=bK (gz N z y) (.put .d (.num w)):=⟨_,rfl⟩
 obtain⟨E,hE⟩:∃A,A=bK (gz N z y) (.put .n (.sp .a)):=⟨_,rfl⟩
 obtain⟨G,hG⟩:∃A,A=bK (gz N z y) (.fill .s (.sp .a)):=⟨_,rfl⟩
 obtain⟨X1,W6⟩:∃X,X=[A,B,D,E,G].drop t:=⟨_,rfl⟩
 obtain⟨X2,W7⟩:∃X,X=[A,B,D,E,G].take t:=⟨_,rfl⟩
 obtain⟨Y,hY⟩:∃X,X=X1++X2:=⟨_,rfl⟩
 have hYr:Y=(mO t f v w).map (bK (gz N z y)):=by
  rw[hY,W6,W7,hA,hB,hD,hE,hG];unfold mO Jl;rw[eV,vd,vi];rfl
 have lY:Y.length=5:=by rw[hYr,aT,Dn ht5]
 have sl1:∀a b d e,DQ [a,b,d,e,⟨.lst,[A,B,D,E,G]⟩] (some (t:Int)) none (.ref 4)=some (.lst X1):=λa b d e=>by
  rw[W6];rcases(by lia : t=0\/t=1\/t=2\/t=3\/t=4)with rfl | rfl | rfl | rfl | rfl<;>rfl
 have OW:∀a b d e,DQ [a,b,d,e,⟨.lst,[A,B,D,E,G]⟩] none (some (t:Int)) (.ref 4)=some (.lst X2):=λa b d e=>by
  rw[W7];rcases(by lia : t=0\/t=1\/t=2\/t=3\/t=4)with rfl | rfl | rfl | rfl | rfl<;>rfl
 have ct:∀h,Qk h (.lst X1) (.lst X2)=some Y:=λh=>by
  rw[W6,W7,hY,W6,W7];rcases(by lia : t=0\/t=1\/t=2\/t=3\/t=4)with rfl | rfl | rfl | rfl | rfl<;>rfl
 obtain⟨R,x9,h1,h2,g3⟩:=zg (c+1) K (x0:=some (pd ns)) (x2:=some (.int (cell ns 1))) (x4:=some (LW y)) (x5:=some (.lst ([N5.b,.c,.d,.e].map (sS (gz N z y))))) (x6:=some (.int f)) (x8:=some (.int (t:Int))) (h0:=[⟨.lst,[A]⟩,⟨.lst,[A,B]⟩,⟨.lst,[A,B,D]⟩,⟨.lst,[A,B,D,E]⟩,⟨.lst,[A,B,D,E,G]⟩]) rfl cs Y none (by lia)
 refine⟨R,h1,h2,?_⟩;obtain⟨T,hT⟩:∃T,T=Y++R.map (bK (gz N z y)):=⟨_,rfl⟩
 have hF:fdP (gz N z y) (mO t f v w++R++[Rw.dr])=.au [.str (N 5),.au [.au [.str (N 0),yJ]],.aL,.au ([N5.b,.c,.d,.e].map (sS (gz N z y))),.au (T++[.au [.str "give",.str ""]])]:=by
  rw[hT,hYr];unfold fdP;rw[eV,eV];rfl
 rw[hF];rw[<-hT]at g3;have lT:T.length<=4000:=by rw[hT,bB,aT];lia
 have ap:∀ρ a b d e g x,fu (dN fw) (.ref 5) [x] ⟨ρ,[a,b,d,e,g,⟨.lst,T⟩]⟩=some (.ok .aL,⟨ρ,[a,b,d,e,g,⟨.lst,T++[x]⟩]⟩):=λρ a b d e g x=>wN (h:=[a,b,d,e,g]) lT
 have tC:∀a b d e g l,DR [a,b,d,e,g,⟨.lst,l⟩] [.ref 5]=some (.au l):=λa b d e g l=>rfl
 have tL:∀h l,DR h [.lst l]=some (.au l):=λh l=>rfl
 clear hT hF hYr W6 W7 hY;subst hA hB hD hE hG
 delta iS gy at g3
 simp only[aP,dZ,kL,dG,bK,gm,gX,gz,pA,LW,yJ,yK,sS,kC,Nm.n]at g3 sl1 OW ⊢;rw[wH];exact⟨_,by simp only[↓bM,e0,e1,e2,en,en2,m8,f8,a1,a2,p30,mf,d64,m5,t7,tf,mv,mw,l2,SX,i0,i1,i2,i3,i4,i5,esl,ap,sl1,OW,ct,tC,tL,g3,bT,bQ];rfl⟩
end bI
set_option maxHeartbeats 4000000
namespace bI
open PySem L2 L2.U
theorem Jm(ns:List Int)(h:ns.length<=63):Yes (run aM 30 "law" [pd ns] []):=by
 obtain⟨M,F,L,hp,K,W,Z,hL,ep⟩:=BA 24 h;obtain⟨jZ,hB,aaZ⟩:∃jZ:Int,Bd jZ/\cell ns 3%sx=jZ:=⟨_,rZ _,rfl⟩
 have fp:∀h,iu h (.au [fdP M F])=some (.au [fdP M F]):=λh=>Ie (by simp[noRef,ao,rE])
 have nr0:noRef (.au [fdP M F])=true:=by simp[noRef,ao,rE]
 have p0:∀h,bu h (.au [fdP M F]) (.int 0)=some (fdP M F):=λh=>rfl
 have p4:∀h,bu h (fdP M F) (.int 4)=some (.au (F.map (bK M))):=λh=>rfl
 have bg:=Je 28 K (F:=F) (x:=jZ);obtain⟨P,hP⟩:∃P,P=PV.au [fdP M F]:=⟨_,rfl⟩
 have pl:=fun(n:Nat) (hn:n<=4000)=>WV 13 K W (by rw[Z.len];lia) (by rw[Z.len];lia) hB (most:=n) (by lia)
 rw[<-hP]at ep fp nr0 pl p0 bg;obtain⟨m1,hm1,afq⟩:=Jj (cell ns 4) (n:=L+4) (by lia)
 obtain⟨e3,he3,afs⟩:=Jj (cell ns 4/93) (n:=3) (by decide)
 obtain⟨most,hmo,hmL⟩:∃most:Nat,most=(if(cell ns 4/31%3==0)=true then L+e3 else m1)/\most<=L+3:=⟨_,rfl,by split<;>lia⟩
 have c3:run aM 29 "_law_cell_at" [pd ns,.int 3] []=some (.ok (.int (cell ns 3)),[]):=se 28 ns 3;have c4:run aM 29 "_law_cell_at" [pd ns,.int 4] []=some (.ok (.int (cell ns 4)),[]):=se 28 ns 4;have p30:=λh=>IF (h:=h)
 have m30:∀h,cE h (.int (cell ns 3)) (.int sx)=some (.int jZ):=λh=>by rw[rM,aaZ]
 have lT:∀h,ki h [.au (F.map (bK M))]=some (.int ((L+1:Nat):Int)):=λh=>by
  show some (PV.int (((F.map (bK M)).length:Nat):Int))=_;rw[aT,Z.len]
 have a3:∀h,gK h (.int ((L+1:Nat):Int)) (.int 3)=some (.int ((L+4:Nat):Int)):=λh=>by show some (PV.int (((L+1:Nat):Int)+3))=_;rw[show((L+1:Nat):Int)+3=((L+4:Nat):Int) by lia]
 have s1:∀h,KA h (.int ((L+1:Nat):Int)) (.int 1)=some (.int (L:Int)):=λh=>by show some (PV.int (((L+1:Nat):Int)-1))=_;rw[show((L+1:Nat):Int)-1=(L:Int) by lia]
 have mm:∀h,cE h (.int (cell ns 4)) (.int ((L+4:Nat):Int))=some (.int (m1:Int)):=λh=>by rw[gr (by lia),hm1]
 have d31:∀h,gL h (.int (cell ns 4)) (.int 31)=some (.int (cell ns 4/31)):=λh=>oV (by decide)
 have d93:∀h,gL h (.int (cell ns 4)) (.int 93)=some (.int (cell ns 4/93)):=λh=>oV (by decide)
 have m3:∀h,cE h (.int (cell ns 4/31)) (.int 3)=some (.int (cell ns 4/31%3)):=λh=>gr (by decide)
 have me:∀h,cE h (.int (cell ns 4/93)) (.int 3)=some (.int (e3:Int)):=λh=>by rw[gr (by decide)];exact dH _ (dH _ he3)
 have ae:∀h,gK h (.int (L:Int)) (.int (e3:Int))=some (.int ((L+e3:Nat):Int)):=λh=>rfl
 have q0:∀h x,mQ h (.int x) (.int 0)=some (.bl (x==0)):=λh x=>rfl
 have SX:∀x:Int,ao [pd ns,.int x]=true:=λx=>by
  show(noRef (.lst (ns.map PV.int))&&_)=true;rw[rD (Dp ns)];rfl
 rw[show run aM 30 "law"=_ from LR 29]
 obtain⟨T,hT⟩:∃T,T=PV.au (F.map (bK M)):=⟨_,rfl⟩
 rw[<-hT]at p4 lT;rw[fR (qs:=[pd ns,P]),fR (qs:=[pd ns,P,T]),fR (qs:=[pd ns,P,T,.int jZ]),fR (qs:=[pd ns,P,T,.int jZ,.int (m1:Int)]),fR (qs:=[pd ns,P,T,.int jZ,.int (most:Int)])]
 rotate_left
 ·rw[hmo];cases b:cell ns 4/31%3==0
  ·exact aY (by simp only[↓fA,c4,SX,d31,m3,q0,b];rfl)
  ·exact aY (by simp only[↓fA,c4,SX,d31,m3,q0,b,lT,s1,d93,me,ae];rfl)
 ·exact aY (by simp only[↓fA,c4,SX,lT,a3,mm];rfl)
 ·exact aY (by simp only[↓fA,c3,SX,p30,m30];rfl)
 ·exact aY (by simp only[↓fA,p0,p4];rfl)
 ·exact aY (by simp only[↓fA,ep,fp];rfl)
 obtain⟨x8,y4⟩:=Di 25 K W Z (by lia) hB (most:=most) (x0:=some (pd ns)) (x1:=some P) (x3:=some (.int jZ)) (x9:=none) L 0 none (by lia)
 rw[<-hT]at y4;obtain⟨E0,SN⟩:∃E,E=Dh M (sV M jZ):=⟨_,rfl⟩
 have y0:EO M (stN M F jZ 0).1 (stN M F jZ 0).2 (E9 M F jZ most 0)=[E0,⟨.lst,[]⟩,⟨.lst,[]⟩]:=by
  unfold E9;rw[if_neg (by lia),SN]
  rfl
 rw[<-SN]at bg;rw[y0,show Mx most 0=2 from if_neg (by lia),<-List.range_eq_range']at y4
 delta pe gy at y4
 have rg:xZ [.int (L:Int)]=some ((List.range L).map λm:Nat=>.int (m:Int)):=My (by lia)
 have n2:∀a b,ao [P,.lst [.int a],.int b]=true:=λa b=>by simp[ao,nr0,noRef]
 have n3:∀a,ao [P,.lst [.int a]]=true:=λa=>by simp[ao,nr0,noRef]
 have n4:∀a b i n,ao [a,.str b,.ref i,n]=false:=λa b i n=>by simp[ao,noRef]
 have ql:∀h,mQ h (.lst [.int jZ]) (.lst [.int jZ])=some (.bl true):=λh=>by
  show some (PV.bl (eqT (.lst [.int jZ]) (.lst [.int jZ])))=_;rw[fU]
 obtain⟨q1,h1,e1,f1⟩:=pl most (by lia)
 obtain⟨q3,h3,ZW,f3⟩:=pl 400 (by decide)
 rw[zf Z (by lia)]at f3
 have cd:∀ρ h,qW 0 3 (run aM 29 "run") [.int 400] [P,.lst [.int jZ]] ⟨ρ,h⟩=some (.ok _,⟨ρ,h⟩):=λρ h=>by
  show(if((0==0)&&(h.isEmpty || ao [P,.lst [.int jZ]]))=true then _ else _)=_
  rw[if_pos (by simp[n3])]
  exact CI (as:=[P,.lst [.int jZ],.int 400]) (st:=⟨ρ,h⟩) (by simp[n2]) rfl ZW f3
 have sl:=λk (hk:k<=L)=>Bw (N:=M) (x:=jZ) Z k hk
 obtain⟨S,hS⟩:∃S,S=(stN M F jZ L).2:=⟨_,rfl⟩
 have Jn:∀{h:List aj} (w:Str) (l:List Int) (i:Nat) (n:Int),l.length<=9000->h[i]?=some ⟨.lst,l.map .int⟩->run aM 29 "_law_told" [.au [.str w,.lst (l.map .int),.int n,.au []],.str w,.ref i,.int n] h=some (.ok (.bl true),h):=λw l i n h1 h2=>MA 27 w h1 n h2
 have eq1:∀h,mQ h (.int (most:Int)) (.int (L:Int))=some (.bl ((most:Int)==(L:Int))):=λh=>rfl
 have Le:∀h,UC h (.int (most:Int)) (.int ((L+1:Nat):Int))=some (.bl (decide ((most:Int)<((L+1:Nat):Int)))):=λh=>rfl
 have ge1:∀h,UD h (.int (most:Int)) (.int ((L+1:Nat):Int))=some (.bl (decide (((L+1:Nat):Int)<=(most:Int)))):=λh=>rfl
 have l1:∀a:PV,[a].length<=4000000:=λ_=>by simp
 obtain⟨H,hH⟩:∃H,H=EO M (stN M F jZ L).1 (stN M F jZ L).2 (E9 M F jZ most L):=⟨_,rfl⟩
 rw[<-hH]at y4;have SY:H[1]?=some ⟨.lst,(stN M F jZ L).2.map .int⟩:=by rw[hH];rfl
 have hE:H.isEmpty=false:=fx SY;rcases Nat.lt_trichotomy most L with hm | hm | hm
 ·have JB:H[3]?=some ⟨.lst,(stN M F jZ most).2.map .int⟩:=by rw[hH];unfold E9;rw[if_pos hm];rfl
  rw[ze Z (by lia)]at f1
  have t1:=Jn "more" (stN M F jZ most).2 3 (most:Int) (aR (sl most (by lia)) (by lia)) JB
  have t2:=Jn "done" (stN M F jZ L).2 1 ((L+1:Nat):Int) (aR (sl L (aA L)) (by lia)) SY
  rw[show Mx most L=3 from if_pos hm]at y4
  have b1:((most:Int)==(L:Int))=false:=fE.mpr (by lia)
  have b2:decide ((most:Int)<((L+1:Nat):Int))=true:=dW (by lia)
  have b3:decide (((L+1:Nat):Int)<=(most:Int))=false:=cZ (by lia)
  exact⟨_,by simp only[↓bM,bg,lT,s1,rg,y4,eq1,b1,Le,b2,ge1,b3,e1,f1,t1,t2,cd,n2,n3,n4,ql,l1,hE,aW,aU,bT,bQ];rfl⟩
 ·subst hm;have lb:VJ H (.ref 1)=some ((stN M F jZ most).2.map .int):=by
   show ox H (.ref 1)=_;unfold ox;rw[ak SY rfl]
  have RE:∀c:aj,(H++[c]).isEmpty=false:=λc=>by simp
  rw[ze Z (by lia)]at f1
  have t1:=Jn (h:=H++[⟨.lst,(stN M F jZ most).2.map .int⟩]) "more" (stN M F jZ most).2 H.length (most:Int) (aR (sl most (by lia)) (by lia)) cX
  have t2:=Jn (h:=H++[⟨.lst,(stN M F jZ most).2.map .int⟩]) "done" (stN M F jZ most).2 1 ((most+1:Nat):Int) (aR (sl most (aA _)) (by lia)) (by rw[fB (dF.mp SY).1];exact SY)
  have b1:((most:Int)==(most:Int))=true:=eU _;have b2:decide ((most:Int)<((most+1:Nat):Int))=true:=dW (by lia)
  have b3:decide (((most+1:Nat):Int)<=(most:Int))=false:=cZ (by lia)
  exact⟨_,by simp only[↓bM,bg,lT,s1,rg,y4,eq1,b1,lb,Le,b2,ge1,b3,e1,f1,t1,t2,cd,n2,n3,n4,ql,l1,hE,RE,aW,aU,bT,bQ];rfl⟩
 ·rw[zf Z hm]at f1;have t2:=Jn "done" (stN M F jZ L).2 1 ((L+1:Nat):Int) (aR (sl L (aA L)) (by lia)) SY
  have b1:((most:Int)==(L:Int))=false:=fE.mpr (by lia)
  have b2:decide ((most:Int)<((L+1:Nat):Int))=false:=cZ (by lia)
  have b3:decide (((L+1:Nat):Int)<=(most:Int))=true:=dW (by lia)
  exact⟨_,by simp only[↓bM,bg,lT,s1,rg,y4,eq1,b1,Le,b2,ge1,b3,e1,f1,t2,cd,n2,n3,n4,ql,l1,hE,aW,aU,bT,bQ];rfl⟩
end bI
noncomputable section
open PySem PySem.W PyProof.Rows PySem.Calls
theorem PySem.Challenge.cw_lendrule_k53_straight_runs_holds : PySem.Challenge.rw_lendrule_k53_straight_runs.Holds := by
 exact bI.iJ λd h1 h2=>L2.U.Ic (P:=bI.aM) (N:=30) (st:=bI.Wf) (x:="_law_script") (l:=PySem.Challenge.rw_lendrule_k53_straight_runs) (by kernel_rfl) (by kernel_rfl) rfl h1 h2 ⟨rfl,by decide,by decide⟩ (by kernel_rfl) bI.hnd rfl (λw h Y=>Y) bI.Jm
end
