import PyProof.Rows.All
import KE.KSortTup
import KE.KDictOf
import KE.KNestM
import KE.KItemsList
import KE.KIsAll
import KE.KLam
import KE.KRevIter
import KE.KSortedM
import PyProof.StrWalks
import PyProof.SetKind
import PyProof.AttrMissHeap
import PyProof.DictUpdate
import KE.KUnpack
import PyProof.DictRoadsH
import PyProof.TupleKey
import PyProof.EqAt
import PyProof.EqKinds
import PyProof.TupleCall
import PyProof.NeKinds
import PySem.Challenge.RW_lendrule_k54_runs_with_jumps
set_option compiler.extract_closed false
set_option maxHeartbeats 0
set_option Elab.async false
set_option linter.all false
set_option maxRecDepth 100000
noncomputable section
section
open PySem PySem.Spec PyProof.Rows
def mR:=@PyProof.Rows.slot_tuple_getitem
def uq:=@List.eq_nil_of_length_eq_zero
def Ew:=@F.args_tuple_iterator_next_1
def Ex:=@F.entry_tuple_iterator_next
def kx:=@PyProof.Rows.callWith_type1
def kz:=@List.getD_eq_getElem?_getD
def kA:=@List.getElem?_append_right
def Ey:=@Calls.Name_function_global
def uu:=@F.slot_tuple_iterator_next
def Ez:=@PySem.F.args_object_init_3
def pf:=@Array.getElem?_eq_getElem
def yP:=@List.drop_eq_getElem_cons
def hJ:=@List.getElem?_eq_none_iff
def gz:=@List.getElem?_append_left
def dS:=@List.getElem?_eq_some_iff
def uv:=@List.filterMap_cons_some
def yQ:=@PySem.F.args_tuple_add_2
def yR:=@F.slot_list_getattribute
def uw:=@List.filterMap_cons_none
def kB:=@List.eq_of_mem_replicate
def jf:=@AutoSeq1.wpAny_loadPart'
def yS:=@PySem.F.args_tuple_mul_2
def eE:=@List.getElem?_eq_getElem
def yT:=@PySem.F.plainAttrs_list
def fZ:=@wpAny_callSpecial?_slot
def yU:=@PySem.F.entry_tuple_mul
def yV:=@PySem.F.entry_tuple_add
def yW:=@PySem.F.slot_tuple_mul
def yX:=@PySem.F.slot_tuple_add
def jg:=@Heap.get?_update_other
def kC:=@Option.map_eq_some_iff
def kD:=@Array.getElem?_eq_none
def yY:=@List.take_of_length_le
def aK:=@Heap.get?_push_of_some
def ux:=@List.getElem?_set_self
def uy:=@List.getElem?_eq_none
def uz:=@List.mem_iff_getElem?
def yZ:=@builtinLookup_eq_fast
def y0:=@isSubtype_tuple_tuple
def y9:=@Array.getElem?_toList
def fA:=@List.mem_append_right
def jh:=@List.length_replicate
def mS:=@Heap.get?_update_self
def uA:=@Around.under_plainId
def ph:=@Bool.and_eq_true_iff
def za:=@List.mem_of_mem_drop
def cG:=@List.mem_cons_of_mem
def zb:=@wpAny_updateSeq_pair
def zc:=@List.mem_of_mem_take
def bW:=@List.getElem?_set_ne
def pj:=@List.mem_of_getElem?
def mT:=@List.mem_append_left
def hZ:=@beq_eq_false_iff_ne
def zd:=@Int.toNat_of_nonneg
def gA:=@List.replicate_succ
def ze:=@List.filterMap_cons
def fB:=@PySem.mem_of_lookup
def uB:=@List.mem_map_of_mem
def pq:=@Array.length_toList
def zf:=@List.getElem?_range
def uC:=@F.plain_extend_loop
def bL:=@Heap.get?_push_size
def dw:=@List.mem_cons_self
def cf:=@Bool.false_ne_true
def mU:=@wpAny_Call_Name_kw
def cj:=@Nat.lt_of_lt_of_le
def zg:=@wpAny_tupleItemsOf
def eF:=@Bool.false_eq_true
def bz:=@List.mem_singleton
def bO:=@List.length_append
def kE:=@Int.emod_lt_of_pos
def pA:=@Nat.lt_of_le_of_lt
def zh:=@Array.forIn_toList
def pB:=@List.mem_filterMap
def kF:=@wpAny_setField_rec
def zi:=@wpAny_pyIter_list
def mV:=@F.args_zip_next_1
def zj:=@List.any_eq_false
def iy:=@of_decide_eq_true
def ia:=@List.map_inj_left
def pC:=@Function.comp_def
def kG:=@List.flatten_cons
def uD:=@F.slot_tuple_hash
def cC:=@List.size_toArray
def ji:=@wpAny_truthy_bool
def cQ:=@List.getElem?_map
def kH:=@List.append_assoc
def zk:=@List.nodup_append
def kJ:=@wpAny_newObj_type
def zl:=@Bool.not_eq_true'
def uE:=@decide_eq_true_eq
def pE:=@List.length_range
def kL:=@Int.toNat_natCast
def fD:=@List.all_eq_true
def dy:=@List.lookup_cons
def f7:=@beq_self_eq_true
def bB:=@List.not_mem_nil
def mW:=@F.entry_zip_next
def jj:=@Option.bind_some
def zm:=@List.length_drop
def zo:=@Nat.le_add_right
def zq:=@noFill_tuple_add
def zt:=@Option.getD_none
def aJ:=@Bool.and_eq_true
def zu:=@wpAny_pyIter_zip
def zw:=@Nat.le_of_not_lt
def kM:=@wpAny_isInstance
def fE:=@wpAny_call_entry
def cq:=@List.length_cons
def uF:=@wpAny_forIn_list
def uG:=@Heap.size_update
def kN:=@List.length_take
def uH:=@Around.in1_units
def kO:=@List.cons_append
def pF:=@Nat.lt_succ_self
def zx:=@List.isEmpty_iff
def cR:=@List.mem_append
def uI:=@F.slot_tuple_eq
def pG:=@List.find?_cons
def zy:=@List.range_succ
def aX:=@Option.some.inj
def pH:=@wpAny_execs_nil
def uJ:=@Nat.min_eq_left
def dz:=@decide_eq_false
def ib:=@Int.emod_nonneg
def aU:=@List.length_map
def mX:=@List.length_nil
def zz:=@List.cons.injEq
def fF:=@List.map_append
def zA:=@typeLookup_type
def mY:=@List.forIn_cons
def kP:=@List.nodup_cons
def uK:=@codeAny_builtin
def zB:=@Option.map_some
def f9:=@F.slot_zip_next
def gB:=@List.length_set
def mZ:=@wpAny_specialOf
def kQ:=@wpAny_passesOwn
def zC:=@List.mem_filter
def kR:=@List.foldl_cons
def cY:=@List.append_nil
def pM:=@wpAny_updateSeq
def dH:=@List.nil_append
def pN:=@wpAny_ite_false
def zD:=@List.of_mem_zip
def uL:=@List.mem_range
def aS:=@Bool.and_false
def uM:=@Nat.mul_le_mul
def uN:=@isSubtype_stop
def pO:=@List.nodup_nil
def pP:=@List.forIn_nil
def fG:=@wpAny_seqItems
def eS:=@decide_eq_true
def eG:=@Heap.size_push
def uO:=@Bool.not_false
def uP:=@wpAny_onRaise
def m7:=@Paired.length
def pQ:=@Bool.and_self
def uQ:=@wpAny_standAt
def kT:=@wpAny_attempt
def jk:=@List.all_cons
def jl:=@Prod.mk.injEq
def uR:=@plainId_quiet
def cD:=@Bool.and_true
def aQ:=@List.map_cons
def m9:=@List.any_cons
def aC:=@List.mem_cons
def dU:=@wpAny_holding
def fH:=@Nat.lt_irrefl
def iz:=@Bool.not_true
def aY:=@Nat.le_trans
def di:=@List.map_nil
def jm:=@Nat.lt_trans
def pS:=@Nat.ne_of_gt
def bC:=@Nat.ne_of_lt
def aT:=@Bool.or_self
def jn:=@List.map_map
def pT:=@codeAny_mono
def gC:=@Nat.add_zero
def uS:=@Nat.zero_add
def pU:=@Nat.le_of_lt
def aH:=@Heap.lt_size
def jo:=@Nat.le_of_eq
def bX:=@List.mem_map
def cE:=@Bool.or_true
def nc:=@wpAny_typeOf
def cH:=@wpAny_field
def pV:=@Int.le_refl
def pW:=@wpAny_letGo
def aF:=@Nat.le_refl
def iA:=@Nat.zero_le
def kU:=@sizeLine_eq
def pX:=@typeIs_int
def ai:=@wpAny_bind
def ar:=@wpAny_pure
def gf:=@call_meets
def pY:=@beq_iff_eq
def jq:=@wpAny_mono
def iB:=@wpAny_rule
def aV:=@eq_of_beq
def bD:=@or_false
def nj:=@tail_any
def eU:=@congrArg
def cJ:=@if_false
def bU:=@Ne.symm
def eI:=@if_true
end
namespace PSh
end PSh
section
namespace L2
open PySem PySem.Spec PyProof.Rows
abbrev bQ:=Sum Int Str
inductive V where
 | aL | bl (b:Bool) | int (i:Int) | str (x:Str) | RB (b:Array UInt8) | Wo (b:UInt64) | ref (a:Addr) | ty (n:String)
 deriving DecidableEq
def RelV:V->Value->Prop
 | .aL,u=>u=Value.none
 | .bl b,u=>u=Value.bool b
 | .int i,u=>∃t,u=Value.int i t
 | .str x,u=>∃t,u=Value.str x t
 | .RB b,u=>∃t,u=Value.bytes b t
 | .Wo b,u=>∃t,u=Value.float b t
 | .ref a,u=>u=Value.ref a
 | .ty n,u=>u=Value.type n
abbrev Vals:List V->List Value->Prop:=Paired RelV
noncomputable def kV:bQ->V
 | .inl i=>.int i
 | .inr x=>.str x
inductive HO where
 /-- a list -/
 | lst (xs:List V)
 /-- a tuple (never Wq) -/
 | au (xs:List V)
 /-- a dict Mb keys Xk ints and Sh;one Mb keys Xk tuples of ints and Sh (IT empty one is abQ) -/
 | dK (kvs:List (bQ×V)) | dT (xs:List ((bQ×List bQ)×Addr×Value))
 /-- a set of ints: ax Wr,ax size -/
 | set (S:Int->Bool) (n:Nat)
 /-- an instance of IT class at C,ax dict at dx,ax Nr -/
 | ins (C dx:Addr) (fs:List (Str×V))
 /-- IT dict of IT instance at x -/
 | own (x:Addr)
 /-- IT dict of an RC -/
 | xd (fs:List (Str×V))
 /-- a bound method,f of x -/
 | Ws (f x:Addr)
 /-- a range EA lo,lo+1,.. below hi -/
 | Wt (lo hi:Int)
 /-- a Si abR is aan to IT EA (IT Xl;a dict while a loop aao it): abS,never written while it is so -/
 | wU (o:Obj) (u:HO)
 /-- a code Sj table -/
 | zE (q:Str)
 /-- any other Si,by what is true of ax one EA (a def of aap own: abT a S n:=HO.ext λh=>..) -/
 | ext (φ:Heap->Prop)
abbrev Hp:=Addr->Option HO
def Rd(H:Hp)(a:Addr)(u:HO):Prop:=H a=some u\/∃o,H a=some (.wU o u)
noncomputable def dI:List Str:=["arrivals","empties","needs","held"]
def iC(K:W.Frag)(H:Hp)(a:Addr)(xs:List V):Prop :=
 Rd H a (.au xs) \/
  ∃(o:Obj) (ax:Array Value) (n:Nat),K.lookup a=some o/\o.cls=.type "tuple"/\(o.data=.seq ax n/\o.dict=none)/\ax.size<=sizeLine/\Vals xs ax.toList
def iR(K:W.Frag)(H:Hp)(a:Addr)(xs:List V):Prop :=
 Rd H a (.lst xs)\/∃(ax:List Value) (n:Nat),K.lookup a=some {cls:=.type "list",data:=.seq ax.toArray n}/\ax.length<=sizeLine/\Vals xs ax
structure rY (K:W.Frag) (C:Addr):Prop where
 pg:W.plainGet K C Str.empty=true
 hd:W.hasDictIn K C=true
 po:W.plainOver K C=true
 sa:W.findIn K (.ref C) "__setattr__"=some (some (.builtin "object.__setattr__"))
def gD(K:W.Frag)(C:Addr)(f:Str):Prop:=W.findIn K (.ref C) f=some none
def cL(K:W.Frag)(fd:FuncData)(ps:List Str)(ds:List Value):Prop :=
 ∀(s:Shared) (us:List Value),K.In s.heap->(us++ds).length=ps.length->BindsTo s fd ⟨us,[]⟩ (ps.zip (us++ds))
def cL.all{K:W.Frag}{fd:FuncData}{ps:List Str}(h:∀us:List Value,us.length=ps.length->bindArgs fd ⟨us,[]⟩=pure (ps.zip us)):cL K fd ps []:=λs us _ hl=>by
 rw[cY]at hl ⊢;exact .of_eq (h us hl)
section
variable {X:Cx} {CX:CO} {k:Nat} {f C:Addr} {fd:FuncData} {ps:List Str} {sp:Sp} {jr:List V} {ds:List Value} {E:XK} {x m:Str} {p pos eP:Pos} {e o:Expr} {es:List Expr} {ta:TE} {t:TA}
structure Mk (K:W.Frag) (C f:Addr):Prop where
 makes:W.makesIn K C=true
 init:W.findIn K (.ref C) "__init__"=some (some (.ref f))
 fn:W.isFn K (.ref f)=true
 kp:W.keepIn K (.ref C)=true
end
structure cM (N P:List Str) (sc:Scope):Prop where
 kind:sc.kind=.function
 co:sc.isCoroutine=false
 gen:sc.isGenerator=false
 nd:N.Nodup
 pre:N.take P.length=P
 par:∀x∈P,sc.names.lookup x=some .local\/sc.names.lookup x=some .cell
 nofree:∀y∈sc.names,y.2≠.free
noncomputable def ej(s:Stmt):Arguments:=match s with
 | .FunctionDef _ a _ _ _ _ _ _ _ _=>a
 | _=>{posonlyargs:=[],args:=[],vararg:=none,kwonlyargs:=[],kw_defaults:=[],kwarg:=none,defaults:=[]}
noncomputable def b8(s:Stmt):List Stmt:=match s with
 | .FunctionDef _ _ b _ _ _ _ _ _ _=>b
 | _=>[]
noncomputable def aw(s:Stmt):Scope:=match s with
 | .FunctionDef _ _ _ _ _ _ sc _ _ _=>sc
 | _=>{kind:=.function,names:=[],isGenerator:=false,isCoroutine:=false}
structure Mc (K:W.Frag) (x qual:Str) (st:Stmt) (f:Addr) (fd:FuncData):Prop where
 ex:∃(oc:Value) (od:Option Addr) (kV doc pm:Value) (an:Option Addr) (cW ct:Value) (pZ:Array (Option Value)),
  fd=W.fnOf x qual (ej st) (b8 st) (aw st) .none kV doc pm an cW ct/\K.lookup f=some ⟨oc,od,.func fd,pZ⟩/\W.codeIn K cW qual=true
 kp:W.keepIn K (.ref f)=true
section
variable {P:Program} {w:World} {K:W.Frag} {mg:Str->Option Value} {base:Heap}
def Nt{st:Stmt}{oc:Value}{od an:Option Addr}{pZ:Array (Option Value)}{kV doc pm cW ct:Value}(l:K.lookup f=some ⟨oc,od,.func (W.fnOf x qual (ej st) (b8 st) (aw st) .none kV doc pm an cW ct),pZ⟩)
  (c:W.codeIn K cW qual=true) (k:W.keepIn K (.ref f)=true):Mc K x qual st f (W.fnOf x qual (ej st) (b8 st) (aw st) .none kV doc pm an cW ct):=⟨⟨oc,od,kV,doc,pm,an,cW,ct,pZ,rfl,l,c⟩,k⟩
end
section
variable {X:Cx} {ah:List (Addr×Obj)} {σ:St} {H:Hp} {s:Shared} {a b:Addr} {k:bQ×List bQ} {v:V} {r:Value} {A:Around} {E:Value->Shared->Prop} {xs:List ((bQ×List bQ)×Addr×Value)}
def Ej(K:W.Frag)(H:Hp)(a:Addr)(k:bQ×List bQ):Prop:=∃b,iC K H a [kV k.1,.ref b]/\iC K H b (k.2.map kV)
def fI(K:W.Frag)(H:Hp)(xs:List ((bQ×List bQ)×Addr×Value)):Prop:=∀x∈xs,Ej K H x.2.1 x.1
end
end L2
namespace L2.U
open PySem PySem.Spec PyProof.Rows
inductive Kd where
 | au | lst | ins (C:Str) (ns:List Str) | eQ (t:Bool) (ks:List (bQ×List bQ))
inductive PV where
 | aL | bl (b:Bool) | int (i:Int) | str (x:Str) | ref (n:Nat) | fn (x:Str) | nd (k:Kd) (ps:List PV)
noncomputable abbrev PV.au (ps:List PV):PV:=.nd .au ps
structure Fz where
 F:Hp
 μ:List Addr
def ClsAt(K:W.Frag)(C:Str)(cls:Value):Prop:=W.nsIn K mainGlobals C=some (some cls)
def kW(K:W.Frag)(F H:Hp)(a:Addr)(x:Bool):Kd->List V->Prop
 | .au,vs=>x=false/\iC K H a vs
 | .lst,vs=>if x=true then H a=some (.lst vs)else iR K H a vs
 | .ins C ns,vs=>∃Ca dx fs,ClsAt K C (.ref Ca)/\rY K Ca/\(∀f∈ns,gD K Ca f)/\H a=some (.ins Ca dx fs)/\fs.map (·.1)=ns/\fs.map (·.2)=vs
 | .eQ false ks,vs=>∃kvs:List (bQ×V),H a=some (.dK kvs)/\kvs.map (λy=>(y.1,[]))=ks/\kvs.map (·.2)=vs
 | .eQ true ks,vs=>∃xs,H a=some (.dT xs)/\fI K F xs/\xs.map (·.1)=ks/\Vals vs (xs.map (·.2.2))
mutual
def bj(K:W.Frag)(F:Fz):PV->V->Prop
 | .aL,v=>v=.aL
 | .bl b,v=>v=.bl b
 | .int i,v=>v=.int i
 | .str x,v=>v=.str x
 | .ref n,v=>∃a,F.μ[n]?=some a/\v=.ref a
 | .fn x,v=>∃a,v=.ref a/\W.nsIn K mainGlobals x=some (some (.ref a))
 | .nd k ps,v=>∃a vs,v=.ref a/\kW K F.F F.F a false k vs/\ay K F ps vs
def ay(K:W.Frag)(F:Fz):List PV->List V->Prop
 | [],vs=>vs=[]
 | p::ps,vs=>∃v r,vs=v::r/\bj K F p v/\ay K F ps r
end
section
variable {K:W.Frag} {F F':Fz}
def ay.nil:ay K F [] []:=by simp[ay]
def ay.cons(h:bj K F p v)(t:ay K F ps vs):ay K F (p::ps) (v::vs):=by
 simp only[ay];exact⟨v,vs,rfl,h,t⟩
def cX:bj K F .aL v↔v=.aL:=by simp only[bj]
def br:bj K F (.bl b) v↔v=.bl b:=by simp only[bj]
def aG:bj K F (.int i) v↔v=.int i:=by simp only[bj]
def bN:bj K F (.str i) v↔v=.str i:=by simp only[bj]
def iD:bj K F (.nd k ps) v↔∃a vs,v=.ref a/\kW K F.F F.F a false k vs/\ay K F ps vs:=by simp only[bj]
def bR:bj K F (.au ps) v↔∃a vs,v=.ref a/\iC K F.F a vs/\ay K F ps vs :=
 iD.trans ⟨(by rintro⟨a,vs,h1,h2,h3⟩;exact⟨a,vs,h1,h2.2,h3⟩),(by rintro⟨a,vs,h1,h2,h3⟩;exact⟨a,vs,h1,⟨rfl,h2⟩,h3⟩)⟩
end
end L2.U
namespace L2
open PySem PySem.Spec PyProof.Rows
section
structure EB (K:W.Frag) (C:Addr) (m:Str) (f:Addr):Prop where
  at_:W.findIn K (.ref C) m=some (some (.ref f))
  fn:W.isFn K (.ref f)=true
  kp:W.keepIn K (.ref f)=true
end
end L2
namespace L2.U
open PySem PySem.Spec PyProof.Rows
structure Xm (K:W.Frag) (C:Addr):Prop where
 makes:W.makesIn K C=true
 init:W.findIn K (.ref C) "__init__"=some (some (.builtin "object.__init__"))
 kp:W.keepIn K (.ref C)=true
structure rZ (K:W.Frag) (x qual:Str) (st:Stmt) (f:Addr) (fd:FuncData) (dV:Value):Prop where
 ex:∃(oc:Value) (od:Option Addr) (kV doc pm:Value) (an:Option Addr) (cW ct:Value) (pZ:Array (Option Value)),
  fd=W.fnOf x qual (ej st) (b8 st) (aw st) dV kV doc pm an cW ct/\K.lookup f=some ⟨oc,od,.func fd,pZ⟩/\W.codeIn K cW qual=true
 kp:W.keepIn K (.ref f)=true
structure Pg where
 defs:List (Str×Stmt)
 cons:List (Str×PV):=[]
 dJ:List Str:=[]
 tabs:List (Str×List (Str×Str)):=[]
 eO:List (Str×List (Str×PV)):=[]
 cls:List (Str×Stmt):=[]
 flds:List Str:=[]
 r6:List Str:=[]
 Sk:List (Str×List (Str×Nat)):=[]
 gE:List (Str×(Str×Str×Stmt)):=[]
 js:List (Str×List PV):=[]
 wV:List Str:=[]
def params(st:Stmt):List Str:=(ej st).args.map λa=>a.arg
noncomputable def Sl:NameKind->Bool
 | .local=>true
 | .cell=>true
 | _=>false
def bS(st:Stmt):List Str:=params st++((aw st).names.filter λy=>Sl y.2&&!(params st).contains y.1).map λy=>y.1
structure EC (K:W.Frag) (js:List (Str×List PV)) (x:Str) (st:Stmt):Prop where
 ex:∃f fd dV,W.nsIn K mainGlobals x=some (some (.ref f))/\rZ K x x st f fd dV/\cL K fd (params st) []/\(∀ds,js.lookup x=some ds->∃jr p6,Vals jr p6/\(∀F,ay K F ds jr)/\cL K fd (params st) p6)/\(js.lookup x=none->∀us:List Value,us.length=(params st).length->bindArgs fd ⟨us,[]⟩=pure ((params st).zip us))
 sc:cM (bS st) (params st) (aw st)
def CP(K:W.Frag)(P:Params)(T:Str)(rows:List (Str×Str)):Prop :=
 ∃a es n,W.nsIn K mainGlobals T=some (some (.ref a))/\K.lookup a=some ⟨.type "dict",none,.dict es n,#[]⟩/\W.KeysLit P es.toList/\∀d∈rows,∃f,W.nsIn K a d.1=some (some (.ref f))/\W.nsIn K mainGlobals d.2=some (some (.ref f))
def Xn{K:W.Frag}{P:Params}{T:Str}{rows:List (Str×Str)}{a:Addr}{es:Array DictEntry}{n:Nat}(h1:W.nsIn K mainGlobals T=some (some (.ref a)))(h2:K.lookup a=some ⟨.type "dict",none,.dict es n,#[]⟩)(h3:W.KeysLit P es.toList)
  (h4:∀d∈rows,∃f,W.nsIn K a d.1=some (some (.ref f))/\W.nsIn K mainGlobals d.2=some (some (.ref f))):CP K P T rows:=⟨a,es,n,h1,h2,h3,h4⟩
noncomputable def Md:PV->Value->Bool
 | .int i,.int j _=>i==j
 | .str x,.str y _=>x==y
 | .bl a,.bool b=>a==b
 | .aL,.none=>true
 | _,_=>false
def kX:List PV->List Value->Bool
 | [],[]=>true
 | p::r,u::q=>Md p u&&kX r q
 | _,_=>false
def Nu{K:W.Frag}{p:PV}{u:Value}(h:Md p u=true):∃v,RelV v u/\∀F,bj K F p v:=by
 cases p<;>cases u<;>first | exact absurd h cf | skip
 ·exact⟨.aL,rfl,λF=>cX.mpr rfl⟩
 ·cases aV h;exact⟨.bl _,rfl,λF=>br.mpr rfl⟩
 ·cases aV h;exact⟨.int _,⟨_,rfl⟩,λF=>aG.mpr rfl⟩
 ·cases aV h;exact⟨.str _,⟨_,rfl⟩,λF=>bN.mpr rfl⟩
def Bb{K:W.Frag}{ps:List PV}{us:List Value}(h:kX ps us=true):∃vs,Vals vs us/\∀F,ay K F ps vs:=by
 induction ps generalizing us with
 | nil=>cases us;exact⟨[],.nil,λ_=>.nil⟩;cases h
 | cons p r ih =>
  cases us with
  | nil=>cases h
  | cons u q =>
   have h:=ph.mp h;obtain⟨v,a,b⟩:=Nu (K:=K) h.1;obtain⟨vs,h1,h2⟩:=ih h.2;exact⟨v::vs,.cons a h1,λF=>.cons (b F) (h2 F)⟩
def IU{K:W.Frag}{g:Addr}{x:Str}{a:Addr}{ps:List PV}{us:List Value}{n:Nat}{sl:Array (Option Value)}(h1:W.nsIn K g x=some (some (.ref a)))(h2:K.lookup a=some ⟨.type "tuple",none,.seq us.toArray n,sl⟩)(h3:kX ps us=true)(h4:us.length<=100) :
  ∃u v,W.nsIn K g x=some (some u)/\RelV v u/\∀F,bj K F (.au ps) v:=by
 obtain⟨vs,r,b⟩:=Bb h3;exact⟨_,.ref a,h1,rfl,λF=>bR.mpr ⟨a,vs,rfl,.inr ⟨_,us.toArray,n,h2,rfl,⟨rfl,rfl⟩,by rw[cC];exact aY h4 (by decide),by grind⟩,b F⟩⟩
def IV{K:W.Frag}{g:Addr}{x:Str}{y:Str}{t:Tok}(a:W.nsIn K g x=some (some (.str y t))):∃u v,W.nsIn K g x=some (some u)/\RelV v u/\∀F,bj K F (.str y) v:=⟨_,.str y,a,⟨t,rfl⟩,λF=>bN.mpr rfl⟩
def IW{K:W.Frag}{g:Addr}{x:Str}{i:Int}{t:Tok}(a:W.nsIn K g x=some (some (.int i t))):∃u v,W.nsIn K g x=some (some u)/\RelV v u/\∀F,bj K F (.int i) v:=⟨_,.int i,a,⟨t,rfl⟩,λF=>aG.mpr rfl⟩
def wW(K:W.Frag)(P:Params)(T:Str)(rows:List (Str×PV)):Prop :=
 ∃a es n,(a==sysModules)=false/\W.nsIn K mainGlobals T=some (some (.ref a))/\K.lookup a=some ⟨.type "dict",none,.dict es n,#[]⟩/\W.KeysLit P es.toList/\∀d∈rows,∃u v,W.nsIn K a d.1=some (some u)/\RelV v u/\∀F,bj K F d.2 v
def Nv(K:W.Frag)(C:Str)(st:Stmt)(flds:List Str):Prop:=∃Ca f fd,W.nsIn K mainGlobals C=some (some (.ref Ca))/\Mk K Ca f/\rY K Ca/\(∀g∈flds,gD K Ca g)/\Mc K "__init__" (C++".__init__") st f fd/\(∀us:List Value,us.length=(params st).length->bindArgs fd ⟨us,[]⟩=pure ((params st).zip us))/\cM (bS st) (params st) (aw st)
def Nw(K:W.Frag)(d:Str×(Str×Str×Stmt)):Prop:=∃Ca f fd dV,ClsAt K d.2.1 (.ref Ca)/\EB K Ca d.2.2.1 f/\rZ K d.2.2.1 d.1 d.2.2.2 f fd dV/\cL K fd (params d.2.2.2) []/\cM (bS d.2.2.2) (params d.2.2.2) (aw d.2.2.2)
def Nx(K:W.Frag)(C:Str):Prop:=∃Ca,ClsAt K C (.ref Ca)/\rY K Ca/\Xm K Ca
def Ny(K:W.Frag)(x:Str):Prop:=x∈dI/\∃c T,W.tabIn K x=some (c,T)/\W.codeHdIn K c T=true
def ED(K:W.Frag):Prop:=∃bm o,W.nsIn K mainGlobals "__builtins__"=some (some (.ref bm))/\bm≠builtinsNs/\bm≠mainGlobals/\K.lookup bm=some o/\o.cls=.type "module"/\o.dict=some builtinsNs/\o.data=.plain
structure lK (K:W.Frag) (h:Heap):Prop where
 at_:∀x∈dI,∀c T,W.tabIn K x=some (c,T)->W.codeHdIn K c T=true/\h.get? T=some {cls:=.none,data:=.fields #[]}/\K.lookup T=none
 nd:(dI.filterMap λx=>(W.tabIn K x).map (·.2)).Nodup
def lK.keeps{K:W.Frag}{h h':Heap}(t:lK K h)(k:∀b o,h.get? b=some o->h'.get? b=some o):lK K h':=⟨λx hx c T e=>let ⟨h1,h2,h3⟩:=t.at_ x hx c T e;⟨h1,k _ _ h2,h3⟩,t.nd⟩
theorem jQ{α β:Type} [BEq α] [LawfulBEq α] {b:α} {q:β}:∀{l:List (α×β)},(l.map (·.1)).Nodup->(b,q)∈l->l.lookup b=some q
 | [],_,h=>nomatch h
 | (a,v)::l,hn,h=>by
  rw[aQ,kP]at hn;rw[dy];rcases aC.mp h with e | h'
  ·grind
  ·have:(b==a)=false:=by
    grind
   rw[this];exact jQ hn.2 h'
structure EE (P:Pg) (w:World) (K:W.Frag):Prop where
 hd:∀d∈P.defs,EC K P.js d.1 d.2
 hm:∀d∈P.gE,Nw K d
 hm0:∀C∈P.wV,Nx K C
 hc:∀d∈P.cons,∃u v,W.nsIn K mainGlobals d.1=some (some u)/\RelV v u/\∀F,bj K F d.2 v
 hb:∀x∈P.dJ,W.nsIn K mainGlobals x=some none
 ht:∀d∈P.tabs,CP K w.params d.1 d.2
 hcl:∀d∈P.cls,Nv K d.1 d.2 P.flds
 hct:∀d∈P.eO,wW K w.params d.1 d.2
 hlm:∀x∈P.r6,Ny K x
 hbm:P.r6≠[]->ED K
noncomputable def p7:Value->List Addr
 | .ref a=>[a]
 | _=>[]
def sM:Option Obj->List Addr
 | some ⟨_,_,.dict es _,_⟩=>es.toList.flatMap λe=>p7 e.val
 | some ⟨_,_,.func fd,_⟩=>p7 fd.code++p7 fd.defaults
 | some ⟨_,_,.cls cd,_⟩=>cd.ns::cd.mro.flatMap p7
 | _=>[]
noncomputable def CQ:Obj->Bool
 | ⟨.none,none,.fields vs,sl⟩=>vs.isEmpty&&sl.isEmpty
 | _=>false
def fragOf(h:Heap):List Addr->W.Frag
 | []=>[]
 | a::r=>match h.get? a with
  | some o=>if CQ o=true then fragOf h r else(a,o)::fragOf h r
  | none=>fragOf h r
theorem gv(h:Heap):∀(as:List Addr) (b:Addr) (o:Obj),(fragOf h as).lookup b=some o->h.get? b=some o/\CQ o=false
 | [],_,_,e=>nomatch e
 | a::r,b,o,e=>by
  unfold fragOf at e;split at e
  ·rename_i o' ho;split at e
   ·exact gv h r b o e
   ·rename_i ht;rw[dy]at e;cases z:b==a with
    | true =>
     rw[z]at e;cases e;rw[aV z];exact⟨ho,by simpa using ht⟩
    | false =>
     rw[z]at e;exact gv h r b o e
  ·exact gv h r b o e
theorem CS(h:Heap)(as:List Addr):(fragOf h as).In h:=λb o e=>(gv h as b o e).1
theorem Bc(h:Heap){b:Addr}{o:Obj}(h1:h.get? b=some o)(h2:CQ o=false):∀as:List Addr,b∈as->(fragOf h as).lookup b=some o
 | a::r,hb=>by
  unfold fragOf;by_cases e:b=a
  ·subst e;rw[h1];show(if CQ o=true then _ else _:W.Frag).lookup b=_
   rw[h2,if_neg cf,dy,f7]
  ·have ih:=Bc h h1 h2 r ((aC.mp hb).resolve_left e);split
   ·split
    ·exact ih
    ·rw[dy,hZ.mpr e];exact ih
   ·exact ih
theorem nv{h:Heap}{as bs:List Addr}{b:Addr}{o:Obj}(e:(fragOf h as).lookup b=some o)(hb:b∈bs):(fragOf h bs).lookup b=some o:=Bc h (gv h as b o e).1 (gv h as b o e).2 bs hb
noncomputable def nsO:Option Obj->List Addr
 | some ⟨_,_,.cls cd,_⟩=>[cd.ns]
 | _=>[]
def Nz(h:Heap)(a:Addr):List Addr:=a::(sM (h.get? a)++(nsO (h.get? a)).flatMap λb=>(sM (h.get? b)).flatMap λc=>c::sM (h.get? c))
def d7(h:Heap):W.Frag:=fragOf h (mainGlobals::(sM (h.get? mainGlobals)).flatMap (Nz h))
noncomputable def IX(K:W.Frag)(x:Str):Option FuncData:=match W.nsIn K mainGlobals x with
 | some (some (.ref f))=>(match K.lookup f with
  | some ⟨_,_,.func fd,_⟩=>(match W.codeIn K fd.code x with
   | true=>some {fd with defaults:=.none,kwdefaults:=.none,doc:=.none,pyModule:=.none,annotations:=none,code:=.none,closureTuple:=.none}
   | false=>none)
  | _=>none)
 | _=>none
def EF(h:Heap)(x:Str):Option FuncData:=match W.nsIn (fragOf h [mainGlobals]) mainGlobals x with
 | some (some (.ref f))=>(match(fragOf h [f]).lookup f with
  | some ⟨_,_,.func fd,_⟩=>(match W.codeIn (fragOf h (p7 fd.code)) fd.code x with
   | true=>some {fd with defaults:=.none,kwdefaults:=.none,doc:=.none,pyModule:=.none,annotations:=none,code:=.none,closureTuple:=.none}
   | false=>none)
  | _=>none)
 | _=>none
def EG{h:Heap}{x:Str}{v:FuncData}(e:EF h x=some v):IX (d7 h) x=some v:=by
 unfold EF at e;split at e
 ·rename_i f hf;split at e
  ·rename_i oc od fd pZ hl;split at e
   ·rename_i hc;have hg:W.nsIn (d7 h) mainGlobals x=some (some (.ref f))/\f∈sM (h.get? mainGlobals):=by
     unfold W.nsIn at hf ⊢;split at hf
     ·rename_i gc gd es gn gs hk;have k2:(d7 h).lookup mainGlobals=_:=nv hk dw;rw[k2,(gv _ _ _ _ hk).1];refine⟨hf,?_⟩;split at hf
      ·rename_i en hen;have hv:en.val=.ref f:=aX (aX hf);exact List.mem_flatMap.mpr ⟨en,List.mem_of_find?_eq_some hen,by rw[hv];exact dw⟩
      ·split at hf<;>cases hf
     ·cases hf
    have mf:∀b∈Nz h f,b∈mainGlobals::(sM (h.get? mainGlobals)).flatMap (Nz h):=λb hb=>cG _ (List.mem_flatMap.mpr ⟨f,hg.2,hb⟩)
    have k3:(d7 h).lookup f=some ⟨oc,od,.func fd,pZ⟩:=nv hl (mf f dw);have k4:W.codeIn (d7 h) fd.code x=true:=by
     unfold W.codeIn at hc ⊢;split at hc
     ·rename_i c wI;split at hc
      ·rename_i cc cdd vs csl hk;have:(d7 h).lookup c=_:=nv hk (mf c (cG _ (mT _ (by rw[(gv _ _ _ _ hl).1];show c∈p7 fd.code++p7 fd.defaults;rw[wI];exact mT _ dw))))
       rw[this];exact hc
      ·cases hc
     ·cases hc
    unfold IX;rw[hg.1];dsimp only
    rw[k3];dsimp only
    rw[k4];exact e
   ·cases e
  ·cases e
 ·cases e
def EH(x:Str)(st:Stmt):FuncData:=W.fnOf x x (ej st) (b8 st) (aw st) .none .none .none .none none .none .none
def NA(K:W.Frag)(js:List (Str×List PV))(x:Str):Bool:=match W.nsIn K mainGlobals x with
 | some (some (.ref f))=>(match K.lookup f with
  | some ⟨_,_,.func fd,_⟩=>(match js.lookup x,fd.defaults with
   | none,.none=>true
   | some ds,.ref T=>(match K.lookup T with
    | some ⟨.type t,none,.seq us _,_⟩=>(t=="tuple")&&kX ds us.toList
    | _=>false)
   | _,_=>false)
  | _=>false)
 | _=>false
def Sm(K:W.Frag)(js:List (Str×List PV))(x:Str)(dV:Value):Prop:=(dV=.none/\js.lookup x=none)\/∃ds T us n sl,js.lookup x=some ds/\dV=.ref T/\K.lookup T=some ⟨.type "tuple",none,.seq us n,sl⟩/\kX ds us.toList=true
def IY{K:W.Frag}{js:List (Str×List PV)}{x:Str}{st:Stmt}(h:IX K x=some (EH x st))(hd:NA K js x=true):∃f fd dV,W.nsIn K mainGlobals x=some (some (.ref f))/\rZ K x x st f fd dV/\Sm K js x dV:=by
 unfold IX at h;split at h
 ·rename_i f hf;split at h
  ·rename_i oc od fd pZ hl;split at h
   ·rename_i hc;have h:=aX h;have hD:Sm K js x fd.defaults:=by
     unfold NA at hd;rw[hf]at hd;dsimp only at hd
     rw[hl]at hd;dsimp only at hd
     split at hd
     ·rename_i e1 e2;exact .inl ⟨e2,e1⟩
     ·rename_i ds T e1 e2;split at hd
      ·rename_i t us n sl e3;rw[aJ]at hd;obtain rfl:=aV hd.1;exact .inr ⟨ds,T,us,n,sl,e1,e2,e3,hd.2⟩
      ·cases hd
     ·cases hd
    obtain⟨a1,a2,a3,a4,a5,a6,a7,a8,a9,a10,a11,a12,a13,a14,a15⟩:=fd;unfold EH at h;simp only[FuncData.mk.injEq]at h;obtain⟨e1,e2,e3,e4,e5,e6,e7,-,-,-,-,-,-,-,Xo⟩:=h;subst e1 e2 e3 e4 e5 e6 e7 Xo;exact⟨f,_,a8,hf,⟨⟨oc,od,a9,a10,a11,a12,a13,a14,pZ,rfl,hl,hc⟩,by unfold W.keepIn;dsimp only;rw[hl]⟩,hD⟩
   ·cases h
  ·cases h
 ·cases h
def Be(K:W.Frag)(g:Addr)(d:Str×PV):Bool:=match W.nsIn K g d.1 with
 | some (some (.int j _))=>(match d.2 with | .int i=>i==j | _=>false)
 | some (some (.str y _))=>(match d.2 with | .str x=>x==y | _=>false)
 | some (some (.ref a))=>(match K.lookup a with
  | some ⟨.type t,none,.seq us _,_⟩=>(match d.2 with | .nd .au ps=>(t=="tuple")&&(kX ps us.toList&&decide (us.toList.length<=100)) | _=>false)
  | _=>false)
 | _=>false
def wX{K:W.Frag}{g:Addr}{x:Str}{p:PV}(h:Be K g (x,p)=true):∃u v,W.nsIn K g x=some (some u)/\RelV v u/\∀F,bj K F p v:=by
 unfold Be at h;dsimp only at h
 split at h
 ·rename_i j t hn;split at h
  ·obtain rfl:=aV h;exact IW hn
  ·cases h
 ·rename_i y t hn;split at h
  ·obtain rfl:=aV h;exact IV hn
  ·cases h
 ·rename_i a hn;split at h
  ·rename_i t dd us n sl hl;split at h
   ·rw[aJ,aJ]at h;obtain⟨h1,h2,h3⟩:=h;obtain rfl:=aV h1;obtain⟨us⟩:=us;exact IU hn hl h2 (iy h3)
   ·cases h
  ·cases h
 ·cases h
noncomputable def EI(K:W.Frag)(x:Str):Bool:=match W.nsIn K mainGlobals x with
 | some none=>true
 | _=>false
def EJ{K:W.Frag}{x:Str}(h:EI K x=true):W.nsIn K mainGlobals x=some none:=by
 unfold EI at h;split at h
 ·assumption
 ·cases h
abbrev OV:=Option (Option Value)
noncomputable def Bf(e:DictEntry):Option Str×Int:=(match e.key with
 | .str x _=>some x
 | _=>none,e.hash)
noncomputable def EK(K:W.Frag)(a:Addr)(d:Str×Str):Bool:=match W.nsIn K a d.1,W.nsIn K mainGlobals d.2 with
 | some (some (.ref f)),some (some (.ref g))=>f==g
 | _,_=>false
def EL(K:W.Frag)(T:Str)(rows:List (Str×Str)):Option (Value×Option Addr×Array (Option Value)×List (Option Str×Int)×Bool):=match W.nsIn K mainGlobals T with
 | some (some (.ref a))=>(match K.lookup a with
  | some ⟨c,dd,.dict es _,sl⟩=>some (c,dd,sl,es.toList.map Bf,rows.all (EK K a))
  | _=>none)
 | _=>none
noncomputable def zF(P:Params)(rows:List (Str×Str)):Option (Value×Option Addr×Array (Option Value)×List (Option Str×Int)×Bool):=some (.type "dict",none,#[],rows.map (λd=>(some d.1,PyData.keyHash P d.1)),true)
theorem p8{β:Type}{P:Params}:∀{es:List DictEntry} {rows:List (Str×β)},es.map Bf=rows.map (λd=>(some d.1,PyData.keyHash P d.1))->W.KeysLit P es
 | [],_,_=>trivial
 | _::_,[],h=>by cases h
 | e::es,d::rows,h=>by
  rw[aQ,aQ,zz]at h;obtain⟨h1,h2⟩:=h;refine⟨?_,p8 h2⟩;unfold Bf at h1;rw[jl]at h1;obtain⟨h3,h4⟩:=h1;split at h3
  ·grind
  ·cases h3
def EM{K:W.Frag}{a:Addr}{d:Str×Str}(h:EK K a d=true):∃f,W.nsIn K a d.1=some (some (.ref f))/\W.nsIn K mainGlobals d.2=some (some (.ref f)):=by
 unfold EK at h;split at h
 ·grind
 ·cases h
def EN{K:W.Frag}{P:Params}{T:Str}{rows:List (Str×Str)}(h:EL K T rows=zF P rows):CP K P T rows:=by
 unfold EL zF at h;split at h
 ·rename_i a hn;split at h
  ·rename_i c dd es n sl hl;have h:=aX h;simp only[jl]at h;obtain⟨rfl,rfl,rfl,h4,h5⟩:=h;exact Xn hn hl (p8 h4) λd hd=>EM (fD.mp h5 d hd)
  ·cases h
 ·cases h
abbrev IZ:=Option (Value×Option Addr×Array (Option Value)×List (Option Str×Int)×Bool)
noncomputable def uT(K:W.Frag)(f:Addr)(qual:Str):Option FuncData:=match K.lookup f with
 | some ⟨_,_,.func fd,_⟩=>(match W.codeIn K fd.code qual with
  | true=>some {fd with kwdefaults:=.none,doc:=.none,pyModule:=.none,annotations:=none,code:=.none,closureTuple:=.none}
  | false=>none)
 | _=>none
def Bh(x qual:Str)(st:Stmt):FuncData:=W.fnOf x qual (ej st) (b8 st) (aw st) .none .none .none .none none .none .none
def sN{K:W.Frag}{x qual:Str}{st:Stmt}{f:Addr}(h:uT K f qual=some (Bh x qual st)):∃fd,Mc K x qual st f fd:=by
 unfold uT at h;split at h
 ·rename_i oc od fd pZ hl;split at h
  ·rename_i hc;have h:=aX h;obtain⟨a1,a2,a3,a4,a5,a6,a7,a8,a9,a10,a11,a12,a13,a14,a15⟩:=fd;unfold Bh at h;simp only[FuncData.mk.injEq]at h;obtain⟨e1,e2,e3,e4,e5,e6,e7,e8,-,-,-,-,-,-,Xo⟩:=h;subst e1 e2 e3 e4 e5 e6 e7 e8 Xo;exact⟨_,Nt hl hc (by unfold W.keepIn;dsimp only;rw[hl])⟩
  ·cases h
 ·cases h
abbrev NB:=Option (Bool×Option FuncData)
def EO(K:W.Frag)(d:Str×(Str×Str×Stmt)):NB:=match W.nsIn K mainGlobals d.2.1 with
 | some (some (.ref a))=>(match W.findIn K (.ref a) d.2.2.1 with
  | some (some (.ref f))=>some (W.isFn K (.ref f)&&W.keepIn K (.ref f),uT K f d.1)
  | _=>none)
 | _=>none
def zG(d:Str×(Str×Str×Stmt)):NB:=some (true,some (Bh d.2.2.1 d.1 d.2.2.2))
def ER(P:Pg):Prop:=∀(kV doc pm:Value) (an:Option Addr) (cW ct:Value) (u:Nat->Value),
 P.gE.map (λd=>bindArgs (W.fnOf d.2.2.1 d.1 (ej d.2.2.2) (b8 d.2.2.2) (aw d.2.2.2) .none kV doc pm an cW ct) ⟨(List.range (params d.2.2.2).length).map u,[]⟩)=P.gE.map λd=>pure ((params d.2.2.2).zip ((List.range (params d.2.2.2).length).map u))
noncomputable def ES(K:W.Frag)(C:Str):Option (Bool×OV×OV):=match W.nsIn K mainGlobals C with
 | some (some (.ref a))=>some (W.makesIn K a&&(W.keepIn K (.ref a)&&(W.plainGet K a Str.empty&&(W.hasDictIn K a&&W.plainOver K a))),W.findIn K (.ref a) "__setattr__",W.findIn K (.ref a) "__init__")
 | _=>none
noncomputable def zH:Option (Bool×OV×OV):=some (true,some (some (.builtin "object.__setattr__")),some (some (.builtin "object.__init__")))
def ET{K:W.Frag}{C:Str}(h:ES K C=zH):Nx K C:=by
 unfold ES zH at h;split at h
 ·rename_i a hn;have h:=aX h;simp only[jl,aJ]at h;obtain⟨⟨h1,h2,h3,h4,h5⟩,h6,h7⟩:=h;exact⟨a,hn,⟨h3,h4,h5,h6⟩,⟨h1,h7,h2⟩⟩
 ·cases h
abbrev NC:=Option (Bool×OV×List OV×Option FuncData)
def EU(K:W.Frag)(flds:List Str)(C:Str):NC:=match W.nsIn K mainGlobals C with
 | some (some (.ref a))=>(match W.findIn K (.ref a) "__init__" with
  | some (some (.ref f))=>some (W.makesIn K a&&(W.isFn K (.ref f)&&(W.keepIn K (.ref a)&&(W.plainGet K a Str.empty&&(W.hasDictIn K a&&W.plainOver K a)))),W.findIn K (.ref a) "__setattr__",flds.map (λg=>W.findIn K (.ref a) g),uT K f (C++".__init__"))
  | _=>none)
 | _=>none
def zI(flds:List Str)(C:Str)(st:Stmt):NC:=some (true,some (some (.builtin "object.__setattr__")),flds.map (λ_=>some none),some (Bh "__init__" (C++".__init__") st))
noncomputable def uU:List Str->Bool
 | []=>true
 | x::r=>!r.contains x&&uU r
theorem sO:∀{l:List Str},uU l=true->l.Nodup
 | [],_=>pO
 | x::r,h=>by
  simp only[uU,aJ,zl,List.contains_eq_mem,decide_eq_false_iff_not]at h;exact kP.mpr ⟨h.1,sO h.2⟩
noncomputable def Xp:Option NameKind->Bool
 | some .local=>true
 | some .cell=>true
 | _=>false
noncomputable def Sn:NameKind->Bool
 | .free=>false
 | _=>true
noncomputable def So:ScopeKind->Bool
 | .function=>true
 | _=>false
def IA(st:Stmt):Bool:=So (aw st).kind&&(!(aw st).isCoroutine&&(!(aw st).isGenerator&&(uU (bS st)&&((params st).all (λx=>Xp ((aw st).names.lookup x))&&(aw st).names.all λy=>Sn y.2))))
def zJ{st:Stmt}(h:IA st=true):cM (bS st) (params st) (aw st):=by
 unfold IA at h;rw[aJ,aJ,aJ,aJ,aJ]at h;obtain⟨h1,h2,h3,h4,h5,h6⟩:=h;refine⟨?_,by grind,by grind,sO h4,?_,λx hx=>?_,λy hy=>?_⟩
 ·cases z:(aw st).kind<;>rw[z]at h1<;>first | rfl | cases h1
 ·exact List.take_left
 ·have k:=fD.mp h5 x hx;cases z:(aw st).names.lookup x with
  | none=>rw[z]at k;cases k
  | some b =>
   rw[z]at k;cases b<;>first | exact .inl rfl | exact .inr rfl | cases k
 ·have k:=fD.mp h6 y hy;intro z;rw[z]at k;cases k
def EV(P:Pg):Prop:=∀(kV doc pm:Value) (an:Option Addr) (cW ct:Value) (u:Nat->Value),
 P.defs.map (λd=>bindArgs (W.fnOf d.1 d.1 (ej d.2) (b8 d.2) (aw d.2) .none kV doc pm an cW ct) ⟨(List.range (params d.2).length).map u,[]⟩)=P.defs.map λd=>pure ((params d.2).zip ((List.range (params d.2).length).map u))
def gG{us:List Value}{n:Nat}(h:us.length=n):(List.range n).map (λi=>us.getD i .none)=us:=by
 subst h;apply List.ext_getElem
 ·simp
 ·intro i h1 h2;simp[h2]
def NF(x:Str)(st:Stmt)(n:Nat):Prop:=∀(T:Addr) (kV doc pm:Value) (an:Option Addr) (cW ct:Value) (u v:Nat->Value),
 (∃k,bindArgs (W.fnOf x x (ej st) (b8 st) (aw st) (.ref T) kV doc pm an cW ct) ⟨(List.range (params st).length).map u,[]⟩=seqItems? (.ref T) >>= k/\k (some ((List.range n).map v).toArray)=pure ((params st).zip ((List.range (params st).length).map u))) /\
 (∃k,bindArgs (W.fnOf x x (ej st) (b8 st) (aw st) (.ref T) kV doc pm an cW ct) ⟨(List.range ((params st).length-n)).map u,[]⟩=seqItems? (.ref T) >>= k/\k (some ((List.range n).map v).toArray)=pure ((params st).zip ((List.range ((params st).length-n)).map u++(List.range n).map v)))
def Me(P:Pg):Prop:=∀d∈P.defs,∀ds,P.js.lookup d.1=some ds->NF d.1 d.2 ds.length
def I0{K:W.Frag}{x:Str}{st:Stmt}{f T:Addr}{fd:FuncData}{us:List Value}{n:Nat}{sl:Array (Option Value)}(F:rZ K x x st f fd (.ref T))(hT:K.lookup T=some ⟨.type "tuple",none,.seq us.toArray n,sl⟩)(D:NF x st us.length):cL K fd (params st) []/\cL K fd (params st) us:=by
 obtain⟨oc,od,kV,doc,pm,an,cW,ct,pZ,rfl,lk,wI⟩:=F.ex;refine⟨λs ws X hl=>?_,λs ws X hl=>?_⟩
 ·rw[cY]at hl ⊢;obtain⟨⟨k,e1,e2⟩,_⟩:=D T kV doc pm an cW ct (λi=>ws.getD i .none) (λi=>us.getD i .none)
  rw[gG hl]at e1 e2;rw[gG rfl]at e2;exact BindsTo.of_defaults rfl (X _ _ hT) rfl e1 e2
 ·obtain⟨_,⟨k,e1,e2⟩⟩:=D T kV doc pm an cW ct (λi=>ws.getD i .none) (λi=>us.getD i .none)
  rw[bO]at hl;rw[gG (show ws.length=(params st).length-us.length by lia)]at e1 e2
  rw[gG rfl]at e2;exact BindsTo.of_defaults rfl (X _ _ hT) rfl e1 e2
def EW{K:W.Frag}{x:Str}{st:Stmt}{f:Addr}{fd:FuncData}{P:Pg}(hb:EV P)(hd:(x,st)∈P.defs)(F:rZ K x x st f fd .none)(us:List Value)(hl:us.length=(params st).length):bindArgs fd ⟨us,[]⟩=pure ((params st).zip us):=by
 obtain⟨oc,od,kV,doc,pm,an,cW,ct,pZ,rfl,lk,wI⟩:=F.ex;have k:=ia.mp (hb kV doc pm an cW ct λi=>us.getD i .none) (x,st) hd
 dsimp only at k
 rw[gG hl]at k;exact k
def NG(P:Pg):Prop:=∀(kV doc pm:Value) (an:Option Addr) (cW ct:Value) (u:Nat->Value),
 P.cls.map (λd=>bindArgs (W.fnOf "__init__" (d.1++".__init__") (ej d.2) (b8 d.2) (aw d.2) .none kV doc pm an cW ct) ⟨(List.range (params d.2).length).map u,[]⟩)=P.cls.map λd=>pure ((params d.2).zip ((List.range (params d.2).length).map u))
def EX{K:W.Frag}{P:Pg}{C:Str}{st:Stmt}(Sq:IA st=true)(hb:NG P)(hd:(C,st)∈P.cls)(h:EU K P.flds C=zI P.flds C st):Nv K C st P.flds:=by
 unfold EU zI at h;split at h
 ·rename_i a hn;split at h
  ·rename_i f hf;have h:=aX h;simp only[jl,aJ]at h;obtain⟨⟨h1,h2,h3,h4,h5,h6⟩,h7,h8,h9⟩:=h;obtain⟨fd,F⟩:=sN h9;refine⟨a,f,fd,hn,⟨h1,hf,h2,h3⟩,⟨h4,h5,h6,h7⟩,λg hg=>ia.mp h8 g hg,F,λus hl=>?_,zJ Sq⟩
   obtain⟨oc,od,kV,doc,pm,an,cW,ct,pZ,rfl,lk,wI⟩:=F.ex;have k:=ia.mp (hb kV doc pm an cW ct λi=>us.getD i .none) (C,st) hd
   dsimp only at k
   rw[gG hl]at k;exact k
  ·cases h
 ·cases h
def EY{K:W.Frag}{P:Pg}{d:Str×(Str×Str×Stmt)}(Sq:IA d.2.2.2=true)(hb:ER P)(hd:d∈P.gE)(h:EO K d=zG d):Nw K d:=by
 unfold EO zG at h;split at h
 ·rename_i a hn;split at h
  ·rename_i f hf;have h:=aX h;simp only[jl,aJ]at h;obtain⟨⟨h1,h2⟩,h3⟩:=h;obtain⟨fd,F⟩:=sN h3;refine⟨a,f,fd,.none,hn,⟨hf,h1,h2⟩,⟨F.ex,F.kp⟩,.all λus hl=>?_,zJ Sq⟩
   obtain⟨oc,od,kV,doc,pm,an,cW,ct,pZ,rfl,lk,wI⟩:=F.ex;have k:=ia.mp (hb kV doc pm an cW ct λi=>us.getD i .none) d hd
   rw[gG hl]at k;exact k
  ·cases h
 ·cases h
def zK(K:W.Frag)(h:Heap)(x:Str):Bool:=match W.tabIn K x with
 | none=>true
 | some (c,T)=>W.codeHdIn K c T&&(match h.get? T with
  | some o=>CQ o
  | _=>false)
noncomputable def NH(K:W.Frag):Bool:=match W.nsIn K mainGlobals "__builtins__" with
 | some (some (.ref bm))=>!(bm==builtinsNs)&&(!(bm==mainGlobals)&&(match K.lookup bm with
  | some ⟨.type m,some d,.plain,_⟩=>(m=="module")&&(d==builtinsNs)
  | _=>false))
 | _=>false
def EZ(P:Pg)(K:W.Frag)(h:Heap):Bool:=dI.all (zK K h)&&(decide (dI.filterMap λx=>(W.tabIn K x).map (·.2)).Nodup&&((P.r6.isEmpty || NH K)&&P.r6.all λx=>dI.contains x&&(W.tabIn K x).isSome))
def sP{h:Heap}{x:Str}{c T:Addr}(e:zK (d7 h) h x=true)(t:W.tabIn (d7 h) x=some (c,T)):W.codeHdIn (d7 h) c T=true/\h.get? T=some {cls:=.none,data:=.fields #[]}/\(d7 h).lookup T=none:=by
 unfold zK at e;rw[t]at e;simp only[aJ]at e;obtain⟨h1,h3⟩:=e;split at h3
 ·rename_i o ho;refine⟨h1,?_,?_⟩
  ·unfold CQ at h3;split at h3
   ·grind
   ·cases h3
  ·cases k:(d7 h).lookup T with
   | none=>rfl
   | some o' =>
    obtain⟨k1,k2⟩:=gv _ _ _ _ k;rw[ho]at k1;cases k1;rw[h3]at k2;cases k2
 ·cases h3
def Ja{K:W.Frag}(e:NH K=true):ED K:=by
 unfold NH at e;split at e
 ·rename_i bm hb;simp only[aJ]at e;obtain⟨h1,h2,h3⟩:=e;split at h3
  ·rename_i m d sl z;rw[aJ]at h3;obtain rfl:=aV h3.1;obtain rfl:=aV h3.2;exact⟨bm,_,hb,by grind,by grind,z,rfl,rfl,rfl⟩
  ·cases h3
 ·cases e
def E2{P:Pg}{h:Heap}(e:EZ P (d7 h) h=true):lK (d7 h) h/\(∀x∈P.r6,Ny (d7 h) x)/\(P.r6≠[]->ED (d7 h)):=by
 unfold EZ at e;simp only[aJ]at e;obtain⟨h1,h2,h3,h4⟩:=e;have all:=fD.mp h1;refine⟨⟨λx hx c T t=>sP (all x hx) t,iy h2⟩,λx hx=>?_,λz=>?_⟩
 ·have:=fD.mp h4 x hx;rw[aJ]at this;have hm:x∈dI:=by grind
  cases t:W.tabIn (d7 h) x with
  | none=>rw[t]at this;cases this.2
  | some cT=>exact⟨hm,cT.1,cT.2,t,(sP (all x hm) t).1⟩
 ·rcases Bool.or_eq_true_iff.mp h3 with y | y
  ·grind
  ·exact Ja y
def zL(K:W.Frag)(T:Str)(rows:List (Str×PV)):IZ:=match W.nsIn K mainGlobals T with
 | some (some (.ref a))=>(match K.lookup a with
  | some ⟨c,dd,.dict es _,sl⟩=>some (c,dd,sl,es.toList.map Bf,!(a==sysModules)&&rows.all (Be K a))
  | _=>none)
 | _=>none
noncomputable def uV(P:Params)(rows:List (Str×PV)):IZ:=some (.type "dict",none,#[],rows.map (λd=>(some d.1,PyData.keyHash P d.1)),true)
def CU{K:W.Frag}{P:Params}{T:Str}{rows:List (Str×PV)}(h:zL K T rows=uV P rows):wW K P T rows:=by
 unfold zL uV at h;split at h
 ·rename_i a hn;split at h
  ·rename_i c dd es n sl hl;have h:=aX h;simp only[jl]at h;obtain⟨rfl,rfl,rfl,h4,h5⟩:=h;rw[aJ,zl]at h5;exact⟨a,es,n,h5.1,hn,hl,p8 h4,λd hd=>wX (fD.mp h5.2 d hd)⟩
  ·cases h
 ·cases h
abbrev NI:=List (Option FuncData)×Bool×List IZ×List NC×List IZ×List NB×List (Option (Bool×OV×OV))
def zM(P:Pg)(K:W.Frag)(hp:Heap):NI:=(P.defs.map (λd=>EF hp d.1),P.cons.all (Be K mainGlobals)&&(P.dJ.all (EI K)&&(EZ P K hp&&P.defs.all λd=>NA K P.js d.1)),P.tabs.map (λd=>EL K d.1 d.2),P.cls.map (λd=>EU K P.flds d.1),P.eO.map (λd=>zL K d.1 d.2),P.gE.map (EO K),P.wV.map (ES K))
def zN(P:Pg)(w:World):NI:=(P.defs.map (λd=>some (EH d.1 d.2)),true,P.tabs.map (λd=>zF w.params d.2),P.cls.map (λd=>zI P.flds d.1 d.2),P.eO.map (λd=>uV w.params d.2),P.gE.map zG,P.wV.map λ_=>zH)
structure PgB (P:Pg):Prop where
 sc:P.defs.all (λd=>IA d.2)=true
 bd:EV P
 sc2:P.cls.all (λd=>IA d.2)=true
 bd2:NG P
 sc3:P.gE.all (λd=>IA d.2.2.2)=true
 bd3:ER P
 df:Me P
theorem p9:∀{ps:List PV} {us:List Value},kX ps us=true->ps.length=us.length
 | [],[],_=>rfl
 | [],_::_,h=>by cases h
 | _::_,[],h=>by cases h
 | p::ps,u::us,h=>by
  have h:=(ph.mp h).2;rw[cq,cq,p9 h]
def CV{P:Pg}{w:World}(B:PgB P){hp:Heap}(h:zM P (d7 hp) hp=zN P w):EE P w (d7 hp)/\lK (d7 hp) hp:=by
 unfold zM zN at h;simp only[jl]at h;obtain⟨h1,h2,h5,h6,h7,h8,h9⟩:=h;rw[aJ,aJ,aJ]at h2;obtain⟨l1,l2,l3⟩:=E2 h2.2.2.1;refine⟨⟨λd hd=>?_,λd hd=>EY (fD.mp B.sc3 d hd) B.bd3 hd (ia.mp h8 d hd),λC hC=>ET (ia.mp h9 C hC),λd hd=>wX (fD.mp h2.1 d hd),λx hx=>EJ (fD.mp h2.2.1 x hx),λd hd=>EN (ia.mp h5 d hd),λd hd=>EX (fD.mp B.sc2 d hd) B.bd2 hd (ia.mp h6 d hd),λd hd=>CU (ia.mp h7 d hd),l2,l3⟩,l1⟩
 obtain⟨f,fd,dV,a,F,D⟩:=IY (js:=P.js) (EG (ia.mp h1 d hd)) (fD.mp h2.2.2.2 d hd);refine⟨⟨f,fd,dV,a,F,?_⟩,zJ (fD.mp B.sc d hd)⟩;rcases D with⟨rfl,hn⟩ | ⟨ds,T,us,n,sl,e1,rfl,e3,e4⟩
 ·exact⟨.all λus hl=>EW B.bd hd F us hl,λds e=>(by rw[hn]at e;cases e),λ_ us hl=>EW B.bd hd F us hl⟩
 ·obtain⟨us⟩:=us;obtain⟨vs,r,b⟩:=Bb (K:=d7 hp) e4;have b2:=I0 F e3 (by rw[<-p9 e4];exact B.df d hd ds e1)
  refine⟨b2.1,λds' e=>?_,λe=>by rw[e1]at e;cases e⟩
  rw[e1]at e;cases e;exact⟨vs,us,r,b,b2.2⟩
def Jb(P:Pg)(B:PgB P):W.Hook :=
 ⟨NI,λs=>zM P (d7 s.heap) s.heap,λw=>zN P w,λw h=>∃K:W.Frag,K.In h/\EE P w K/\lK K h,λw s e=>⟨_,CS _ _,CV B e⟩,λ_ _ _ ⟨K,a,b,c⟩ k=>⟨K,a.keeps k,b,c.keeps k⟩⟩
noncomputable def CW(p:Program)(row:String)(b:Bool)(N:Nat)(w:World):Option Shared:=(W.fencedOpening treeTable p w N).bind λs₀=>W.topFrom treeTable p (w.withFollow row b) N s₀
def CY{p q:Program}{loose:List Str}{Xt:Shared->Bool}{α:Type}{Yf:Shared->α}{Ya:World->α}{N:Nat}{g0:Bool}(row:String)
  (h1:∀w,(CW p row false N w).map (W.openSeen q loose (importedModules p.main.body) Xt g0)=some (W.openGood q loose)) (h2:∀w,(CW p row true N w).map (W.openSeen q loose (importedModules p.main.body) Xt g0)=some (W.openGood q loose))
  (h3:∀w,(CW p row false N w).map Yf=some (Ya (w.withFollow row false))) (h4:∀w,(CW p row true N w).map Yf=some (Ya (w.withFollow row true))):W.LeftO p q loose Xt Yf Ya N g0:=by
 refine W.LeftO.of_split row λw=>?_
 obtain⟨sA,a1,a2⟩:=kC.mp (h1 w);obtain⟨sB,b1,b2⟩:=kC.mp (h2 w);obtain⟨sC,c1,c2⟩:=kC.mp (h3 w);obtain⟨sD,d1,d2⟩:=kC.mp (h4 w);rw[a1]at c1;rw[b1]at d1;cases c1;cases d1;obtain⟨s0,f0,tA⟩:=Option.bind_eq_some_iff.mp a1;obtain⟨s1,f1,tB⟩:=Option.bind_eq_some_iff.mp b1;rw[f0]at f1;cases f1;rw[f0,zB,tA,tB,zB,zB,a2,b2,c2,d2]
end L2.U
noncomputable section
namespace L2.U
open PySem PySem.W
def topQ(p:Program)(w:World)(m:Nat)(RD:Option Value):Nat->SharedT->Thread->Option SharedT
 | 0,_,_=>none
 | n+1,s,t=>match through t with
  | true=>some s
  | false=>match Fast.tw6613529449190102663 m RD t with
   | false=>none
   | true=>match Fast.tw10156331382660048174 (Fast.tw11892475500146522536 Fast.tw14364793385576792824) p w s t with
    | some (s',t')=>topQ p w m RD n s' t'
    | none=>none
theorem topQ_of{p:Program}{w:World}{m:Nat}{RD:Option Value}:∀{n:Nat} {s r:SharedT} {t:Thread},topQ p w m RD n s t=some r->topRun treeTable p w m RD n s.abs t=some r.abs
 | 0,_,_,_,h=>by cases h
 | n+1,s,r,t,h=>by
  unfold topQ at h;unfold topRun;rw[<-Fast.te6613529449190102663,<-Fast.te10156331382660048174,<-Fast.te11892475500146522536,<-Fast.te14364793385576792824]at h;cases a:through t with
  | true=>rw[a]at h;cases h;rfl
  | false =>
   rw[a]at h;cases b:stepOk m RD t with
   | false=>rw[b]at h;cases h
   | true =>
    rw[b]at h;cases c:stepT (denote treeTable) p w s t with
    | none=>rw[c]at h;cases h
    | some y=>rw[c]at h;rw[stepT_spec c];exact topQ_of h
noncomputable def Sr(l:List Obj):BT:=(l.foldl (fun(x:BT×Nat) o=>(x.1.ins x.2 o,x.2+1)) (.nil,0)).1
theorem Jc(P:Params):absHeap (Sr (boot_heap P).objs.toList) (boot_heap P).objs.size (boot_heap P).life=boot_heap P:=by kernel_rfl
theorem Jd(P:Params):(boot_heap P).isNs mainGlobals=true:=by kernel_rfl
def E3(p:Program)(row:String)(b:Bool)(N:Nat)(w:World)(os:OsState):Option SharedT :=
 topQ p (w.withFollow row b) (boot_heap w.params).objs.size ((boot_heap w.params).nsMap mainGlobals "__annotations__") N ⟨Sr (boot_heap w.params).objs.toList,(boot_heap w.params).objs.size,(boot_heap w.params).life,.mk [],boot_drawn,boot_toks,os⟩ (topStub p)
def RE(p:Program)(w:World)(s:SharedT):Bool:=staticsOk (importedModules p.main.body) (boot_heap w.params) s.abs.heap&&namesBound p s.abs.heap&&gensDone s.abs&&laidKept (boot_heap w.params) s.abs.heap
theorem oT{p:Program}{row:String}{b:Bool}{N:Nat}{w:World}{α:Type}{g:Shared->α}{a:α}(e:opening p=plainProg p.main.scope.names)(hN:Nat.ble 600 N=true)(f:∀s,fenceModules? p s=some s)
 (h:∀os,(E3 p row b N w os).map (λs=>(RE p w s,g s.abs))=some (true,a)):(CW p row b N w).map g=some a:=by
 obtain⟨⟨hp,gs,d,k,os⟩,h1,h2⟩:=kC.mp (boot_open e hN f w);obtain⟨rfl,rfl,rfl,rfl⟩:hp=boot_heap w.params/\gs=.mk []/\d=boot_drawn/\k=boot_toks:=by simpa using h2
 obtain⟨s,h3,h4⟩:=kC.mp (h os);have h5:=topQ_of h3;unfold SharedT.abs at h5;rw[Jc]at h5;unfold CW;rw[h1];show Option.map g (topFrom treeTable p (w.withFollow row b) N _)=_;unfold topFrom;dsimp only
 rw[Jd,h5];have h6:=(Prod.mk.inj h4).1;unfold RE SharedT.abs at h6;show Option.map g (match staticsOk (importedModules p.main.body) (boot_heap w.params) (absHeap s.tree s.n s.life)&&namesBound p (absHeap s.tree s.n s.life)&&gensDone ⟨absHeap s.tree s.n s.life,s.gens,s.drawn,s.toks,s.os⟩&&laidKept (boot_heap w.params) (absHeap s.tree s.n s.life)with | true=>_ | false=>_)=_
 rw[h6];exact eU some (Prod.mk.inj h4).2
theorem NJ{p q:Program}{loose:List Str}{Xt:Shared->Bool}{α:Type}{Yf:Shared->α}{Ya:World->α}{N:Nat}{g0:Bool}(row:String)(e:opening p=plainProg p.main.scope.names)(hN:Nat.ble 600 N=true)(f:∀s,fenceModules? p s=some s)
 (h0:∀w os,(E3 p row false N w os).map (λs=>(RE p w s,openSeen q loose (importedModules p.main.body) Xt g0 s.abs,Yf s.abs))=some (true,openGood q loose,Ya (w.withFollow row false)))
 (h1:∀w os,(E3 p row true N w os).map (λs=>(RE p w s,openSeen q loose (importedModules p.main.body) Xt g0 s.abs,Yf s.abs))=some (true,openGood q loose,Ya (w.withFollow row true))):LeftO p q loose Xt Yf Ya N g0:=by
 have fs:∀{β γ δ:Type} {o:Option δ} {a:δ->β} {b:δ->γ} {x:β} {y:γ},o.map (λs=>(a s,b s))=some (x,y)->o.map a=some x/\o.map b=some y:=λ{_ _ _ o _ _ _ _} h=>by
  cases o with
  | none=>cases h
  | some s=>cases h;exact⟨rfl,rfl⟩
 exact CY row (λw=>(fs (oT e hN f λos=>h0 w os)).1) (λw=>(fs (oT e hN f λos=>h1 w os)).1) (λw=>(fs (oT e hN f λos=>h0 w os)).2) λw=>(fs (oT e hN f λos=>h1 w os)).2
end L2.U
namespace bH
open PySem L2 L2.U
noncomputable def top(i:Nat):Stmt:=PySem.Challenge.pw_lendrule_k54_runs_with_jumps.main.body.getD i (.Pass ⟨0,0,0,0⟩)
def Bi(i j:Nat):Stmt:=match top i with | .ClassDef _ _ _ b _ _ _ _ _ _ _=>b.getD j (.Pass ⟨0,0,0,0⟩) | s=>s
abbrev Mf:Stmt:=Bi 60 0
abbrev E4:Stmt:=Bi 61 0
abbrev Je:Stmt:=Bi 62 0
abbrev Bj:Stmt:=Bi 72 0
abbrev Mg:Stmt:=Bi 73 0
abbrev iS:Stmt:=Bi 62 1
abbrev iT:Stmt:=Bi 62 2
abbrev kh:Stmt:=Bi 62 3
abbrev nO:Stmt:=Bi 62 4
abbrev ki:Stmt:=Bi 62 5
abbrev uW:Stmt:=Bi 62 6
abbrev dW:Stmt:=Bi 62 7
abbrev kj:Stmt:=Bi 62 8
abbrev eV:Stmt:=Bi 62 9
noncomputable def gH:List (Str×Str):=[("put","put_acts"),("set","set_acts"),("fill","put_acts"),("copy","copy_acts"),("move","move_acts"),("drop","drop_acts"),("lend","lend_acts"),("sole","lend_acts"),("call","call_acts"),("if","if_acts"),("go","go_acts"),("say","say_acts"),("give","give_acts")]
def aM:Pg where
 defs:=([("leaves",7),("check_part",8),("part",9),("first",10),("is_copied",11),("kind_of",14),("is_holder",15),("shape_of",16),("acts",29),("asks_for_full",30),("is_lending",31),("touch",32),("touch_whole",33),("at_acts",34),("operand_acts",35),("target_acts",36),("put_acts",37),("set_acts",38),("copy_acts",39),("move_acts",40),("drop_acts",41),("lend_acts",42),("call_acts",43),("arg_act",44),("owner_act",45),("if_acts",46),("go_acts",47),("say_acts",48),("give_acts",49),("read_by",52),("written_by",53),("lent_by",54),("soled_by",55),("place_of",56),("check_held",63),("boxes_of",64),("pile_behind",65),("pieces",68),("operands",69),("acts_by_row",74),("row_of",75),("acts_of",76),("run_from_first",77),("begin",78),("run_on",79),("do_row",80),("row_behind",81),("do_acts",82),("do_act",83),("written",84),("strip_of",85),("number_put",86),("numbers_found",87),("do_call",88),("do_give",89),("given_back",90),("owned_by",91),("take_back",92),("run",94),("_law_cell_at",96),("_law_whole",97),("_law_names",98),("_law_spot",99),("_law_operand",100),("_law_copied",101),("_law_row",102),("_law_program",103),("_law_begin",104),("_law_place",105),("_law_number",106),("_law_reckon",107),("_law_done",108),("_law_next",109),("_law_due",110),("_law_told",111),("law",112)]:List (String×Nat)).map λd=>(d.1,top d.2)
 cons:=[("HOLDER_WORDS",.au [(.str "lent"),(.str "sole")]),("ROW",.int 0),("ACT",.int 1),("NAME",.int 2),("THROUGH",.int 3),("FIRST",.int 4),("MANY",.int 5),("TAKER",.int 6),("REST",.au [(.str "rest"),(.str ""),(.bl false),(.int 0),(.int 0),(.str "")]),("HAND",.au [(.str "hand"),(.str ""),(.bl false),(.int 0),(.int 0),(.str "")]),("ASKING",.au [(.str "read"),(.str "turn"),(.str "empty"),(.str "lend"),(.str "sole"),(.str "give")]),("LENDING",.au [(.str "lend"),(.str "sole")]),("MOST_BEGUN",.int 12)]
 dJ:=["bool","dict","enumerate","int","isinstance","len","list","range","str","sum","tuple","zip"]
 tabs:=[("MAKERS",gH)]
 cls:=[("Box",Mf),("Grip",E4),("Boxes",Je),("Frame",Bj),("Run",Mg)]
 gE:=[(("Boxes.new_tag":Str),"Boxes","new_tag",iS),(("Boxes.new_box":Str),"Boxes","new_box",iT),(("Boxes.owned":Str),"Boxes","owned",kh),(("Boxes.let":Str),"Boxes","let",nO),(("Boxes.touch":Str),"Boxes","touch",ki),(("Boxes.lend":Str),"Boxes","lend",uW),(("Boxes.touch_boxes":Str),"Boxes","touch_boxes",dW),(("Boxes.store":Str),"Boxes","store",kj),(("Boxes.let_go":Str),"Boxes","let_go",eV)]
 js:=[("run",[.int 400])]
 wV:=[]
 flds:=["number","pile","value","boxes","tag","entries","boxes_made","tags_made","at","has","row","program","world","numbers","listed","frames","said","count"]
 eO:=[("TOUCHES",[("read",.str "read"),("give",.str "read"),("fill",.str "write"),("turn",.str "write"),("empty",.str "write"),("lend",.str "lend"),("sole",.str "sole")]),("SORTS",[("put",.au [(.str "spot"),(.str "operand")]),("set",.au [(.str "spot"),(.str "sign"),(.str "operand"),(.str "operand")]),("fill",.au [(.str "spot"),(.str "operand")]),("copy",.au [(.str "spot"),(.str "spot")]),("move",.au [(.str "spot"),(.str "spot")]),("drop",.au [(.str "spot")]),("lend",.au [(.str "name"),(.str "spot")]),("sole",.au [(.str "name"),(.str "spot")]),("call",.au [(.str "name"),(.str "function"),(.str "args")]),("if",.au [(.str "operand"),(.str "operand"),(.str "row")]),("go",.au [(.str "row")]),("say",.au [(.str "operand")]),("give",.au [(.str "name")])])]
 r6:=[]
 Sk:=[(("leaves":Str),[(("told":Str),1)]),(("acts":Str),[(("told":Str),1)]),(("call_acts":Str),[(("told":Str),1)]),(("check_held":Str),[(("has":Str),1)]),(("boxes_of":Str),[(("has":Str),1)]),(("acts_by_row":Str),[(("told":Str),2)]),(("run_from_first":Str),[(("run":Str),1),(("[return]":Str),1)]),(("begin":Str),[(("has":Str),1),(("frames":Str),2)]),(("run_on":Str),[(("run":Str),1),(("frames":Str),1)]),(("do_row":Str),[(("frame":Str),1),(("run":Str),1),(("frames":Str),1),(("said":Str),1)]),(("do_acts":Str),[(("[return]":Str),7),(("found":Str),1)]),(("do_act":Str),[(("has":Str),1)]),(("numbers_found":Str),[(("numbers":Str),1)]),(("do_give":Str),[(("frames":Str),1)]),(("given_back":Str),[(("has":Str),1)]),(("owned_by":Str),[(("has":Str),1)]),(("take_back":Str),[(("frame":Str),1),(("has":Str),1)]),(("run":Str),[(("going":Str),1),(("frames":Str),1),(("said":Str),1)]),(("_law_names":Str),[(("_law_names_here":Str),1)]),(("_law_program":Str),[(("_law_rows":Str),1)]),(("_law_begin":Str),[(("_law_kept":Str),1),(("[return]":Str),1)]),(("_law_done":Str),[(("_law_kept":Str),1)]),(("_law_due":Str),[(("_law_said":Str),1),(("_law_kept":Str),1)]),(("law":Str),[(("_law_early":Str),1)]),(("Boxes.new_tag":Str),[(("self":Str),1)]),(("Boxes.new_box":Str),[(("box":Str),1),(("self":Str),1),(("entries":Str),1)]),(("Boxes.owned":Str),[(("[return]":Str),1)]),(("Boxes.lend":Str),[(("[return]":Str),1)]),(("Boxes.touch_boxes":Str),[(("found":Str),1),(("[return]":Str),7),(("box":Str),1),(("has":Str),1),(("entries":Str),1)]),(("Boxes.store":Str),[(("box":Str),1)]),(("Boxes.let_go":Str),[(("box":Str),1),(("entries":Str),1)]),(("Boxes":Str),[(("entries":Str),1)]),(("Frame":Str),[(("has":Str),1)]),(("Run":Str),[(("frames":Str),2),(("said":Str),1)])]
section
end
end bH
set_option maxHeartbeats 4000000
set_option maxHeartbeats 4000000
set_option maxHeartbeats 4000000
set_option maxHeartbeats 2000000
set_option maxHeartbeats 2000000
set_option maxHeartbeats 2000000
set_option maxHeartbeats 4000000
set_option maxHeartbeats 2000000
set_option maxHeartbeats 2000000
set_option maxHeartbeats 4000000
set_option maxHeartbeats 4000000
set_option maxHeartbeats 4000000
set_option maxHeartbeats 2000000
set_option maxHeartbeats 4000000
set_option maxHeartbeats 2000000
set_option maxHeartbeats 4000000
set_option maxHeartbeats 2000000
set_option maxHeartbeats 4000000
set_option maxHeartbeats 4000000
set_option maxHeartbeats 4000000
set_option maxHeartbeats 4000000
set_option maxHeartbeats 4000000
set_option maxHeartbeats 4000000
set_option maxHeartbeats 4000000
set_option maxHeartbeats 4000000
set_option maxHeartbeats 4000000
set_option maxHeartbeats 4000000
set_option maxHeartbeats 4000000
set_option maxHeartbeats 4000000
set_option maxHeartbeats 4000000
set_option maxHeartbeats 4000000
set_option maxHeartbeats 4000000
set_option maxHeartbeats 4000000
set_option maxHeartbeats 4000000
set_option maxHeartbeats 4000000
set_option maxHeartbeats 4000000
set_option maxHeartbeats 4000000
set_option maxHeartbeats 4000000
set_option maxHeartbeats 4000000
set_option maxHeartbeats 4000000
set_option maxHeartbeats 4000000
set_option maxHeartbeats 4000000
set_option maxHeartbeats 4000000
set_option maxHeartbeats 4000000
set_option maxHeartbeats 4000000
set_option maxHeartbeats 4000000
set_option maxHeartbeats 4000000
set_option maxHeartbeats 4000000
set_option maxHeartbeats 4000000
set_option maxHeartbeats 4000000
set_option maxHeartbeats 4000000
set_option maxHeartbeats 4000000
set_option maxHeartbeats 4000000
set_option maxHeartbeats 4000000
noncomputable section
namespace bH
open PySem L2 L2.U
theorem Sq:aM.defs.all (λd=>IA d.2)=true:=by kernel_rfl
theorem hbd:EV aM:=by
 intro kV doc pm an cW ct u;kernel_rfl
theorem Xq:aM.cls.all (λd=>IA d.2)=true:=by kernel_rfl
theorem Xr:NG aM:=by
 intro kV doc pm an cW ct u;kernel_rfl
theorem Xs:aM.gE.all (λd=>IA d.2.2.2)=true:=by kernel_rfl
theorem Xu:ER aM:=by
 intro kV doc pm an cW ct u;kernel_rfl
theorem hnd:(aM.defs.map (·.1)++aM.gE.map (·.1)).Nodup:=by decide +kernel
theorem qa:aM.defs.lookup ("run":Str)=some (top 94):=by kernel_rfl
theorem Xv:NF "run" (top 94) 1:=by
 intro T kV doc pm an cW ct u v;exact⟨⟨_,rfl,rfl⟩,⟨_,rfl,rfl⟩⟩
theorem Ss:Me aM:=by
 intro d hd ds e;have h:=jQ (zk.mp hnd).1 hd;have e:(match d.1==("run":Str)with | true=>some [PV.int 400] | false=>List.lookup d.1 [])=some ds:=e
 cases hc:d.1==("run":Str)
 ·rw[hc]at e;cases e
 ·rw[hc]at e;cases e;rw[pY.mp hc,qa]at h;have h:=aX h;rw[pY.mp hc,<-h];exact Xv
noncomputable abbrev pp:Program:=W.OpenLaw.prog PySem.Challenge.rw_lendrule_k54_runs_with_jumps
def qv:Program:=W.view pp [112]
def lo:List Str:=pp.boundNames.filter (· != "law")
def Xt(s:Shared):Bool:=W.xlAt qv [] s&&W.recOk (W.RowW.records (W.OpenRow.toRowW (W.OpenLaw.row PySem.Challenge.rw_lendrule_k54_runs_with_jumps))) s
abbrev hk:W.Hook:=Jb aM ⟨Sq,hbd,Xq,Xr,Xs,Xu,Ss⟩
theorem kq1(w:World)(os:OsState):(E3 pp "special-get-raises" false 7000 w os).map (λs=>(RE pp w s,W.openSeen qv lo (importedModules pp.main.body) Xt true s.abs,W.Hook.obs hk s.abs))=some (true,W.openGood qv lo,W.Hook.val hk (w.withFollow "special-get-raises" false)):=by kernel_rfl
theorem kq2(w:World)(os:OsState):(E3 pp "special-get-raises" true 7000 w os).map (λs=>(RE pp w s,W.openSeen qv lo (importedModules pp.main.body) Xt true s.abs,W.Hook.obs hk s.abs))=some (true,W.openGood qv lo,W.Hook.val hk (w.withFollow "special-get-raises" true)):=by kernel_rfl
theorem ws1:(W.OpenLaw.row PySem.Challenge.rw_lendrule_k54_runs_with_jumps).wellSaid=true:=by kernel_rfl
theorem ws:W.OpenLaw.wellSaid PySem.Challenge.rw_lendrule_k54_runs_with_jumps=true:=by
 unfold W.OpenLaw.wellSaid;rw[ws1];kernel_rfl
end bH
open PySem PySem.W PyProof.Rows PySem.Calls
set_option maxRecDepth 100000 in
set_option maxHeartbeats 0 in
theorem bH.jc(hc:∀d:DefRec,d.name="law"->d.params.defaults=[]->W.WalkO bH.qv bH.lo (XL bH.qv []) (Hook.says bH.hk) (W.OpenRow.toRowW (W.OpenLaw.row PySem.Challenge.rw_lendrule_k54_runs_with_jumps)) d [] (λf vs=>PySem.call f vs)):PySem.Challenge.rw_lendrule_k54_runs_with_jumps.Holds:=by
 w_on;refine W.holds_law bH.ws λbF=>?_
 refine W.holds_open (q:=bH.qv) (loose:=bH.lo) (Xt:=bH.Xt) (XP:=XL bH.qv []) (Yf:=Hook.obs bH.hk) (Ya:=Hook.val bH.hk) (YP:=Hook.says bH.hk) (N:=7000) (L2.U.NJ "special-get-raises" (by kernel_rfl) (by decide) (λ_=>rfl) bH.kq1 bH.kq2) (Hook.of _) (Hook.keeps _) (λs e=>xl_of s (ph.mp e).1) XL.keeps (by rfl) (by rfl) (by rfl) (λs e=>recFacts_of (ph.mp e).2) (by rfl) (by first | assumption | decide +kernel) (by decide +kernel) ⟨rfl,rfl,rfl,rfl,rfl,by decide +kernel⟩ ?hw (hc _ rfl rfl)
 case hw=>w_witness2
end
namespace PySem
open Sem (wp)
section
variable {prog:Program} {w:World} {K:Type} [DecidableEq K] (knd:KeyKind prog w K)
def eJ(h:Heap)(k:K×List K)(a:Addr):Prop:=∃o u b n,h.get? a=some o/\o.cls=.type "tuple"/\o.data=.seq #[u,.ref b] n/\knd.is k.1 u=true/\IsTupleKey knd h k.2 b
noncomputable def qb(k:K×List K):Int:=reduceHash (Builtin.Tuple.tupleHashOf [knd.hash k.1,tupleKeyHash knd k.2])
variable {knd}
theorem eJ.typeIs{s:Shared}{ks:K×List K}{a:Addr}(x:eJ knd s.heap ks a):s.TypeIs (.ref a) "tuple":=let ⟨o,_,_,_,ho,hc,_⟩:=x;⟨o,ho,hc⟩
theorem eJ.inj{h:Heap}{a:Addr}{x y:K×List K}(hx:eJ knd h x a)(hy:eJ knd h y a):x=y:=by
 obtain⟨o,u,b,n,ho,_,hd,hi,hj⟩:=hx;obtain⟨o',u',b',n',mP,_,El,hi',hj'⟩:=hy;obtain rfl:o=o':=aX (ho.symm.trans mP);rw[hd]at El;injection El with h1 _
 cases h1;exact Prod.ext (knd.inj _ _ _ hi hi') (hj.inj hj')
theorem eJ.keeps{h h':Heap}{ks:K×List K}{a d:Addr}{o:Obj}{es ep}(x:eJ knd h ks a)(ho:h.get? d=some o)(hd:o.data=.dict es ep)(hs:Heap.SameBut d h h'):eJ knd h' ks a:=by
 obtain⟨o',u,b,n,mP,hc,El,hi,hj⟩:=x;have fj:a≠d:=by
  rintro rfl
  obtain rfl:o'=o:=aX (mP.symm.trans ho);rw[hd]at El;exact nomatch El
 exact⟨o',u,b,n,(hs.2 a fj).trans mP,hc,El,hi,hj.keeps ho hd hs⟩
variable {A:Around} {E:Value->Shared->Prop} {s:Shared}
theorem lL{ks:K×List K}{a:Addr}{Q:Int->Shared->Prop}(hu:A.units+1<cLine)(hk:eJ knd s.heap ks a)(h:Q (qb knd ks) {s with toks:=s.toks+(ks.2.length+3)}) :
  wpAny (model prog w) A (pyHash (.ref a)) Q E s:=by
 have hT:=hk.typeIs;obtain⟨o,u,b,n,ho,_,hd,hi,hj⟩:=hk;unfold pyHash
 first | unfold pyHashByItsType | skip
 first | refine ai (wpAny_cRoomFor_or (.inr (by lia)) ?_) | skip
 refine ai (mZ hT uD.lookup ?_);show wpAny _ _ (if(some (Value.builtin "tuple.__hash__")==some Value.none)=true then _ else _) Q E s
 rw[if_neg (by rw[beq_builtin_none];exact cf)]
 refine ai (mZ hT uD.lookup ?_);show wpAny _ _ (callSpecialIfBoundUnlessNone? (.ref a) "__hash__" _ >>= _) Q E s;refine ai (wpAny_callSpecialIfBoundUnlessNone?_slot hT uD (fE uD hT F.entry_tuple_hash ?_ (F.args_tuple_hash_1 _)));show wpAny _ _ (Builtin.Tuple.tupleItemsOf (.ref a) >>= _) _ _ s;refine ai (zg ho hd ?_);refine ai ?_;rw[<-zh];refine uF _
  (λrest (c:Array Int) s'=>(rest=[u,.ref b]/\c.toList=[]/\s'=s)\/(rest=[.ref b]/\c.toList=[knd.hash ks.1]/\s'={s with toks:=s.toks+1})\/(rest=[]/\c.toList=[knd.hash ks.1,tupleKeyHash knd ks.2]/\s'={s with toks:=s.toks+(ks.2.length+2)}))
  _ ?_ ?_ _ _ (.inl ⟨rfl,rfl,rfl⟩)
 · rintro x rest c s' (⟨h1,h2,rfl⟩ | ⟨h1,h2,rfl⟩ | ⟨h1,_,_⟩)
   · cases h1
     refine ai (knd.pyHash hi ?_)
     first
      | exact ar (.inr (.inl ⟨rfl,by simp[h2],rfl⟩))
      | exact ai (ar (ar (.inr (.inl ⟨rfl,by simp[h2],rfl⟩))))
   · cases h1
     refine ai (wpAny_pyHash_tuple (s:={s with toks:=s.toks+1}) (by show A.in1.units<cLine;exact hu) hj ?_)
     have e:s.toks+1+(ks.2.length+1)=s.toks+(ks.2.length+2):=by lia
     first
      | exact ar (.inr (.inr ⟨rfl,by simp[h2],by rw[<-e]⟩))
      | exact ai (ar (ar (.inr (.inr ⟨rfl,by simp[h2],by rw[<-e]⟩))))
   · cases h1
 · rintro c s' (⟨h1,_,_⟩ | ⟨h1,_,_⟩ | ⟨_,h2,rfl⟩)
   · cases h1
   · cases h1
   · show wpAny _ _ (retInt (Builtin.Tuple.tupleHashOf c.toList)) _ _ _
     rw[h2];refine wpAny_ret_mkInt ?_;show wpAny _ _ (if(decide (-(2:Int)^63<=Builtin.Tuple.tupleHashOf [knd.hash ks.1,tupleKeyHash knd ks.2])&&decide (Builtin.Tuple.tupleHashOf [knd.hash ks.1,tupleKeyHash knd ks.2]<2^63))=true then _ else _) Q E _
     unfold qb reduceHash at h;have e:s.toks+(ks.2.length+2)+1=s.toks+(ks.2.length+3):=by lia
     split
     · rename_i hr
       rw[if_pos hr]at h;exact ar (by simpa[Nat.add_assoc]using h)
     · rename_i hr
       rw[if_neg hr]at h;exact ai (iB (ar (by simpa[Nat.add_assoc]using h)))
theorem uX{x y:K×List K}{a b:Addr}{P:Fin->Shared->Prop}(hu:A.units<cLine)(hx:eJ knd s.heap x a)(hy:eJ knd s.heap y b) (h:P (.done (.ret (.bool (decide (x=y))))) s) :
  wpAny (model prog w) A (Builtin.«tuple.__eq__» ⟨[.ref a,.ref b],[]⟩) P E s:=by
 have hTb:=hy.typeIs;obtain⟨oa,u,ba,na,hoa,_,hda,hia,hja⟩:=hx;obtain⟨ob,v,bb,nb,RF,_,zO,hib,hjb⟩:=hy;show wpAny _ _ (isInstance (.ref b) (.type "tuple") >>= _) _ _ s;refine ai (kM hTb y0 ?_);simp only[iz,eF,cJ];refine ai (zg hoa hda ?_);refine ai (zg RF zO ?_);refine ai ?_;refine uF _
  (λrest r s'=>r.1=none/\s'=s/\(rest=[(u,v),(.ref ba,.ref bb)]\/(rest=[(.ref ba,.ref bb)]/\x.1=y.1)\/(rest=[]/\x=y)))
  _ ?_ ?_ _ _ ⟨rfl,rfl,.inl rfl⟩
 · rintro⟨p,q⟩ rest r s' ⟨hr,rfl,(e | ⟨e,e1⟩ | ⟨e,_⟩)⟩
   · cases e
     refine ai (knd.eqBool hia hib ?_);by_cases hk:x.1=y.1
     · rw[eS hk]
       simp only[iz,eF,cJ];exact ar ⟨rfl,rfl,by simp[hk]⟩
     · rw[dz hk]
       simp only[uO,eI];have hf:decide (x=y)=false:=dz λe=>hk (by rw[e])
       rw[hf]at h;exact ai (ar (ar (ar h)))
   · cases e
     refine ai (wpAny_eqBool_tuple hu hja hjb ?_);by_cases hk:x.2=y.2
     · rw[eS hk]
       simp only[iz,eF,cJ];exact ar ⟨rfl,rfl,by simp[Prod.ext_iff,e1,hk]⟩
     · rw[dz hk]
       simp only[uO,eI];have hf:decide (x=y)=false:=dz λe=>hk (by rw[e])
       rw[hf]at h;exact ai (ar (ar (ar h)))
   · cases e
 · rintro⟨r1,r2⟩ s' ⟨hr,rfl,(e | ⟨e,_⟩ | ⟨_,e⟩)⟩
   · cases e
   · cases e
   · simp only at hr
     subst hr;rw[eS e]at h;exact ar h
theorem lM{x y:K×List K}{a b:Addr}{Q:Bool->Shared->Prop}(hu:A.units+1<cLine)(hx:eJ knd s.heap x a)(hy:eJ knd s.heap y b)(h:Q (decide (x=y)) s) :
  wpAny (model prog w) A (eqBool (.ref a) (.ref b)) Q E s:=by
 unfold eqBool
 try with_reducible refine dU ?_
 show wpAny _ _ (if(Value.ref a==Value.ref b)=true then _ else _) Q E s
 by_cases Xw:(Value.ref a==Value.ref b)=true
 · rw[if_pos Xw]
   have e:a=b:=by have:=aV Xw;injection this
   subst e;obtain rfl:=hx.inj hy;exact ai (iB (ar (by simpa using h)))
 · rw[if_neg Xw]
   exact ai (wpAny_richCompare_same_room (op:=.Eq) hx.typeIs hy.typeIs uI
    (fE uI hx.typeIs F.entry_tuple_eq (uX (by show A.in1.units<cLine;exact hu) hx hy ⟨_,rfl,(λe=>nomatch e),ji h⟩) (F.args_tuple_eq_2 _ _)) (by lia))
theorem qc{ks:List K}{n:Nat}{a:Addr}{Q:Bool->Shared->Prop}(hk:IsTupleKey knd s.heap ks a)(h:Q true s):wpAny (model prog w) A (eqIsQuiet (n+1) (.ref a)) Q E s:=by
 have hT:=hk.typeIs;obtain⟨o,items,m,ho,_,hd,hi⟩:=hk;unfold eqIsQuiet;refine ai (mZ hT uI.lookup ?_);show wpAny _ _ (isInstance (.ref a) (.type "tuple") >>= _) _ _ s;refine ai (kM hT y0 ?_);simp only[iz,eF,cJ];refine ai (fG ho hd ?_);refine ai ?_;show wpAny _ _ (forIn items _ _) _ _ s;rw[<-zh];refine uF _ (λrest r s'=>r.1=none/\s'=s/\∀v∈rest,carriedByValue v=true) _ ?_ ?_ _ _ ⟨rfl,rfl,hi.byValue⟩
 · rintro v rest r s' ⟨hr,rfl,hall⟩
   rw[eqIsQuiet_byValue _ (hall v dw)];refine ai (ar ?_);simp only[iz,eF,cJ];exact ar ⟨rfl,rfl,λu hu'=>hall u (cG _ hu')⟩
 · rintro⟨r1,r2⟩ s' ⟨hr,rfl,_⟩
   simp only at hr;subst hr;exact ar h
theorem jt{ks:K×List K}{a:Addr}{Q:Bool->Shared->Prop}(hk:eJ knd s.heap ks a)(h:Q true s):wpAny (model prog w) A (eqIsQuiet 8 (.ref a)) Q E s:=by
 have hT:=hk.typeIs;obtain⟨o,u,b,n,ho,_,hd,hi,hj⟩:=hk;unfold eqIsQuiet;refine ai (mZ hT uI.lookup ?_);show wpAny _ _ (isInstance (.ref a) (.type "tuple") >>= _) _ _ s;refine ai (kM hT y0 ?_);simp only[iz,eF,cJ];refine ai (fG ho hd ?_);refine ai ?_;show wpAny _ _ (forIn #[u,Value.ref b] _ _) _ _ s;rw[<-zh];refine uF _ (λrest r s'=>r.1=none/\s'=s/\(rest=[u,.ref b]\/rest=[.ref b]\/rest=[])) _ ?_ ?_ _ _ ⟨rfl,rfl,.inl rfl⟩
 · rintro v rest r s' ⟨hr,rfl,(e | e | e)⟩
   · cases e
     rw[eqIsQuiet_byValue _ (knd.byValue _ _ hi)];refine ai (ar ?_);simp only[iz,eF,cJ];exact ar ⟨rfl,rfl,by simp⟩
   · cases e
     refine ai (qc hj ?_);simp only[iz,eF,cJ];exact ar ⟨rfl,rfl,by simp⟩
   · cases e
 · rintro⟨r1,r2⟩ s' ⟨hr,rfl,_⟩
   simp only at hr;subst hr;exact ar h
end
def ju{prog:Program}{w:World}{K:Type} [DecidableEq K] (knd:KeyKind prog w K):HeapKind prog w (K×List K) where
 is:=eJ knd
 hash:=qb knd
 draws:=λks=>ks.2.length+3
 room:=λA=>A.units+1<cLine
 inj:=λhx hy=>hx.inj hy
 keeps:=λx ho hd hs=>x.keeps ho hd hs
 pyHash:=λhu hk h=>lL hu hk h
 eqBool:=λhu hx hy h=>lM hu hx hy h
 quiet:=λhk h=>jt hk h
theorem fP{prog:Program}{w:World}{K:Type} [DecidableEq K] {knd:KeyKind prog w K} {A:Around} (hu:A.units+2<cLine):(ju knd).room A.in1:=hu
end PySem
namespace L2
open PySem PySem.Spec PyProof.Rows
noncomputable def sQ:bQ->Value->Bool
 | .inl k,v=>Value.isInt k v
 | .inr x,v=>Value.isStrOf x v
noncomputable def Xx(w:World):bQ->Int
 | .inl k=>hashInt k
 | .inr x=>hashStr w x
theorem cN:∀{k:bQ} {v:Value},sQ k v=true->(∃i t,k=Sum.inl i/\v=Value.int i t)\/(∃x t,k=Sum.inr x/\v=Value.str x t)
 | .inl i,v,h=>by
  obtain⟨t,e⟩:=Value.isInt_shape h;exact .inl ⟨i,t,rfl,e⟩
 | .inr x,v,h=>by
  obtain⟨t,e⟩:=Value.isStrOf_shape h;exact .inr ⟨x,t,rfl,e⟩
def CZ(i:Int)(t:Tok):sQ (.inl i) (.int i t)=true:=by simp[sQ,Value.isInt]
def C0(x:Str)(t:Tok):sQ (.inr x) (.str x t)=true:=by simp[sQ,Value.isStrOf]
def NK(a b:Int):decide ((Sum.inl a:bQ)=Sum.inl b)=(a==b):=by
 grind
def NL(a b:Str):decide ((Sum.inr a:bQ)=Sum.inr b)=decide (a=b):=by
 grind
def NM(a:Int)(b:Str):decide ((Sum.inl a:bQ)=Sum.inr b)=false:=by grind
def NN(a:Str)(b:Int):decide ((Sum.inr a:bQ)=Sum.inl b)=false:=by grind
def dj(prog:Program)(w:World):PySem.KeyKind prog w bQ where
 is:=sQ
 hash:=Xx w
 inj:=λv a b ha hb=>by
  rcases cN ha with⟨i,t,rfl,rfl⟩ | ⟨x,t,rfl,rfl⟩
  ·rcases cN hb with⟨j,u,rfl,e⟩ | ⟨y,u,rfl,e⟩
   ·injection e with e1 _;rw[e1]
   ·exact nomatch e
  ·rcases cN hb with⟨j,u,rfl,e⟩ | ⟨y,u,rfl,e⟩
   ·exact nomatch e
   ·injection e with e1 _;rw[e1]
 byValue:=λk v h=>by
  rcases cN h with⟨i,t,rfl,rfl⟩ | ⟨x,t,rfl,rfl⟩<;>rfl
 pyHash:=λhv h=>by
  rcases cN hv with⟨i,t,rfl,rfl⟩ | ⟨x,t,rfl,rfl⟩
  ·exact wpAny_pyHash_int h
  ·exact wpAny_pyHash_str h
 eqBool:=λhu hv h=>by
  rcases cN hu with⟨i,t,rfl,rfl⟩ | ⟨x,t,rfl,rfl⟩
  ·rcases cN hv with⟨j,u,rfl,rfl⟩ | ⟨y,u,rfl,rfl⟩
   ·rw[NK]at h;exact wpAny_eqBool_int h
   ·rw[NM]at h;exact SeqAt.EqAt.int_str i t y u _ _ _ _ h
  ·rcases cN hv with⟨j,u,rfl,rfl⟩ | ⟨y,u,rfl,rfl⟩
   ·rw[NN]at h;exact SeqAt.EqAt.str_int x t j u _ _ _ _ h
   ·rw[NL]at h;exact wpAny_eqBool_str h
 «strs» := λk x t v h=>by
  rcases cN h with⟨i,u,rfl,e⟩ | ⟨y,u,rfl,e⟩
  ·exact nomatch e
  ·injection e with e1 _
   subst e1;cases v<;>rfl
def wY(prog:Program)(w:World)(i:Int)(t:Tok):(dj prog w).is (.inl i) (.int i t)=true:=CZ i t
def wZ(prog:Program)(w:World)(x:Str)(t:Tok):(dj prog w).is (.inr x) (.str x t)=true:=C0 x t
def Vals.length(r:Vals xs us):xs.length=us.length:=m7 r
theorem Vals.get:∀{xs:List V} {us:List Value} {i:Nat} {x:V},Vals xs us->xs[i]?=some x->∃u,us[i]?=some u/\RelV x u
 | _,_,_,_,.nil,e=>by simp at e
 | _,_,0,_,.cons r _,e=>by grind
 | _,_,i+1,x,.cons _ t,e=>by
  obtain⟨u,h1,h2⟩:=Vals.get t (by simpa using e)
  exact⟨u,by grind,h2⟩
theorem Vals.set(r:RelV x u):∀{xs:List V} {us:List Value} (i:Nat),Vals xs us->Vals (xs.set i x) (us.set i u)
 | _,_,_,.nil=>.nil
 | _,_,0,.cons _ t=>.cons r t
 | _,_,i+1,.cons q t=>.cons q (Vals.set r i t)
theorem Vals.append:∀{xs ys:List V} {us ws:List Value},Vals xs us->Vals ys ws->Vals (xs++ys) (us++ws)
 | _,_,_,_,.nil,s=>s
 | _,_,_,_,.cons r t,s=>.cons r (Vals.append t s)
theorem Vals.take:∀{xs:List V} {us:List Value} (n:Nat),Vals xs us->Vals (xs.take n) (us.take n)
 | _,_,0,_=>.nil
 | _,_,_+1,.nil=>.nil
 | _,_,n+1,.cons r t=>.cons r (Vals.take n t)
theorem Vals.drop:∀{xs:List V} {us:List Value} (n:Nat),Vals xs us->Vals (xs.drop n) (us.drop n)
 | _,_,0,r=>r
 | _,_,_+1,.nil=>.nil
 | _,_,n+1,.cons _ t=>Vals.drop n t
def Vals.none_of:∀{xs:List V} {us:List Value} {i:Nat},Vals xs us->xs[i]?=none->us[i]?=none:=λ{xs us i} r e=>by
 have h1:=r.length;have h2:=hJ.mp e;exact hJ.mpr (by lia)
def nZ:Option V->Option Value->Prop
 | some v,some u=>RelV v u
 | none,none=>True
 | _,_=>False
def KV{κ:Type}:List (κ×V)->List (κ×Value)->Prop:=Paired fun(p:κ×V) (q:κ×Value)=>p.1=q.1/\RelV p.2 q.2
noncomputable def cU(H:Hp)(a:Addr)(o:HO):Hp:=λb=>if b=a then some o else H b
def aA:cU H a o a=some o:=by unfold cU;rw[if_pos rfl]
def aN(h:b≠a):cU H a o b=H b:=by unfold cU;rw[if_neg h]
def dk{H:Hp}{a b:Addr}{o:HO}(h:H a=some o)(h':H b=none):a≠b:=by
 grind
def n8(h:Heap)(a:Addr)(ax:Array Value):Prop:=∃o,h.get? a=some o/\o.cls=.type "tuple"/\(∃n,o.data=.seq ax n)/\o.dict=none
def n8.new(h:Heap)(ax:Array Value):n8 (h.push {cls:=.type "tuple",data:=.seq ax}) h.objs.size ax:=⟨_,bL _ rfl,rfl,⟨_,rfl⟩,rfl⟩
def n8.is(t:n8 h a ax):IsTup h a ax:=let ⟨o,e,c,n,_⟩:=t;⟨o,e,c,n⟩
section
variable (P:Program) (w:World)
def fQ(H:Hp)(h:Heap)(a:Addr):HO->Prop
 | .lst xs=>xs.length<=sizeLine/\∃(ax:List Value) (n:Nat),Vals xs ax/\h.get? a=some {cls:=.type "list",data:=.seq ax.toArray n}
 | .au xs=>xs.length<=sizeLine/\∃ax:List Value,Vals xs ax/\n8 h a ax.toArray
 | .dK kvs=>kvs.length<=sizeLine/\(a==sysModules)=false/\∃vs,KV kvs vs/\h.DictOf (dj P w) a vs
 | .dT xs=>xs.length<=sizeLine/\(a==sysModules)=false/\∃o es ep,h.get? a=some o/\o.ExactDict/\o.data=.dict es ep/\es.toList=xs.map (entryOfKey (ju (dj P w)))/\(xs.map (·.1)).Nodup
 | .set S n=>h.SetOf (intKind P w) a S n
 | .ins C dx fs=>H dx=some (.own a)/\fs.length<=1000/\dx≠a/\h.get? a=some (W.instObj C dx) /\
   ∃mA,h.Ns1 dx mA/\(∀f,nZ (fs.lookup f) (mA f))/\PySem.Within mA (fs.map (·.1))
 | .own _=>∃o,h.get? a=some o
 | .xd fs=>∃mA,h.Ns1 a mA/\∀f,nZ (fs.lookup f) (mA f)
 | .Wt lo hi=>∃t u v,h.get? a=some {cls:=.type "range",data:=.fields #[.int lo t,.int hi u,.int 1 v]}
 | .wU o u=>h.get? a=some o/\fQ H h a u
 | .zE q=>∃ps:Array Value,h.get? a=some {cls:=.none,data:=.fields ps}/\TriplesOk ps.toList/\∀(pos:Pos) (cv:Value),codeAmong pos ps.toList=some cv ->
   ∃(c:Addr) (oc:Obj) (u:HO) (vs:Array Value) (t:Tok),cv=.ref c/\H c=some (.wU oc u)/\oc.data=.fields vs/\vs[1]?=some (.str q t)
 | .Ws f x=>h.get? a=some (W.methodObj (.ref f) (.ref x))
 | .ext φ=>φ h/\(∃o,h.get? a=some o)/\∀h1 h2:Heap,φ h1->(∀o,h1.get? a=some o->h2.get? a=some o)->φ h2
def lG(H:Hp)(h:Heap):Prop:=∀a o,H a=some o->fQ P w H h a o
end
section
variable {P:Program} {w:World} {H H':Hp} {h h':Heap} {a:Addr} {o:HO}
def fQ.lt(x:fQ P w H h a o):a<h.objs.size:=by
 cases o with
 | lst xs=>obtain⟨_,_,_,_,e⟩:=x;exact aH e
 | au xs=>obtain⟨_,_,_,p⟩:=x;exact p.is.lt
 | dK kvs=>obtain⟨_,_,_,_,o,_,_,e,_⟩:=x;exact aH e
 | dT kvs=>obtain⟨_,_,o,_,_,e,_⟩:=x;exact aH e
 | set S n=>obtain⟨o,_,_,_,e,_⟩:=x;exact aH e
 | ins C dx fs=>obtain⟨_,_,_,e,_⟩:=x;exact aH e
 | own y=>obtain⟨_,e⟩:=x;exact aH e
 | xd fs=>obtain⟨_,⟨_,_,_,e,_⟩,_⟩:=x;exact aH e
 | Wt lo hi=>obtain⟨_,_,_,e⟩:=x;exact aH e
 | wU ob u=>obtain⟨e,_⟩:=x;exact aH e
 | zE q=>obtain⟨_,e,_⟩:=x;exact aH e
 | Ws f y=>exact aH (x)
 | ext φ=>obtain⟨_,⟨_,e⟩,_⟩:=x;exact aH e
def fQ.w5(x:fQ P w H h a o)(k:∀b u,(b=a\/H b=some (.own a))->h.get? b=some u->h'.get? b=some u)
  (ho:∀b,H b=some (.own a)->H' b=some (.own a)) (ht:∀b xs,H b=some (.au xs)->H' b=some (.au xs)) (hz:∀b ob u,H b=some (.wU ob u)->H' b=some (.wU ob u)):fQ P w H' h' a o:=by
 induction o with
 | lst xs=>obtain⟨z,ax,n,r,e⟩:=x;exact⟨z,ax,n,r,k _ _ (.inl rfl) e⟩
 | au xs=>obtain⟨z,ax,r,ob,e,c⟩:=x;exact⟨z,ax,r,ob,k _ _ (.inl rfl) e,c⟩
 | dK kvs=>obtain⟨z,y,vs,r,ob,es,ep,e,c⟩:=x;exact⟨z,y,vs,r,ob,es,ep,k _ _ (.inl rfl) e,c⟩
 | dT kvs=>obtain⟨z,y,ob,es,ep,e,c⟩:=x;exact⟨z,y,ob,es,ep,k _ _ (.inl rfl) e,c⟩
 | set S n=>obtain⟨ob,es,ep,t,e,c⟩:=x;exact⟨ob,es,ep,t,k _ _ (.inl rfl) e,c⟩
 | ins C dx fs =>
  obtain⟨d,z,ne,e,mA,⟨od,es,ep,e2,c⟩,r⟩:=x;exact⟨ho _ d,z,ne,k _ _ (.inl rfl) e,mA,⟨od,es,ep,k _ _ (.inr d) e2,c⟩,r⟩
 | own y=>obtain⟨ob,e⟩:=x;exact⟨ob,k _ _ (.inl rfl) e⟩
 | xd fs=>obtain⟨mA,⟨od,es,ep,e,c⟩,r⟩:=x;exact⟨mA,⟨od,es,ep,k _ _ (.inl rfl) e,c⟩,r⟩
 | Wt lo hi=>obtain⟨t,u,v,e⟩:=x;exact⟨t,u,v,k _ _ (.inl rfl) e⟩
 | wU ob u ih=>obtain⟨e,q⟩:=x;exact⟨k _ _ (.inl rfl) e,ih q⟩
 | zE q =>
  obtain⟨ps,e,t,c⟩:=x;exact⟨ps,k _ _ (.inl rfl) e,t,λpos cv z=>let ⟨c,oc,u,vs,tk,h1,h2,h3⟩:=c pos cv z;⟨c,oc,u,vs,tk,h1,hz _ _ _ h2,h3⟩⟩
 | Ws f y =>
  have e:=x;exact k a _ (.inl rfl) e
 | ext φ=>obtain⟨p,⟨o,e⟩,st⟩:=x;exact⟨st _ _ p λo q=>k _ _ (.inl rfl) q,⟨o,k _ _ (.inl rfl) e⟩,st⟩
def lG.lt(x:lG P w H h)(e:H a=some o):a<h.objs.size:=(x a o e).lt
def lG.fresh(x:lG P w H h)(e:h.objs.size<=a):H a=none:=by
 cases q:H a with
 | none=>rfl
 | some u=>exact absurd (cj (x.lt q) e) (fH _)
def lG.kept(x:lG P w H h)(k:∀b u,h.get? b=some u->h'.get? b=some u):lG P w H h':=λa o e =>
 (x a o e).w5 (λb u _ q=>k b u q) (λ_ q=>q) (λ_ _ q=>q) λ_ _ _ q=>q
def lG.laid(x:lG P w H h)(k:∀b u,h.get? b=some u->h'.get? b=some u)(hp:h.objs.size<=a)(new:fQ P w (cU H a o) h' a o):lG P w (cU H a o) h':=λb u e=>by
 have hn:=x.fresh hp;by_cases hb:b=a
 ·subst hb;rw[aA]at e;cases e;exact new
 ·rw[aN hb]at e;exact(x b u e).w5 (λc v _ q=>k c v q) (λc q=>by rw[aN (dk q hn)];exact q) (λc xs q=>by rw[aN (dk q hn)];exact q) λc ob v q=>by rw[aN (dk q hn)];exact q
end
def Rd.ok(r:Rd H a u)(x:lG P w H h):fQ P w H h a u:=by
 rcases r with r | ⟨o,r⟩
 ·exact x a u r
 ·obtain⟨_,q⟩:=x a _ r;exact q
def Wu:Option HO->Prop
 | some (.lst _)=>True
 | some (.dK _)=>True
 | some (.dT _)=>True
 | some (.set _ _)=>True
 | some (.ins _ _ _)=>True
 | some (.ext _)=>True
 | _=>False
section
variable {P:Program} {w:World} {H:Hp} {h h':Heap} {x e:Addr} {o':HO}
def lG.write(ok:lG P w H h)(mu:Wu (H x))(he:e=x\/H e=some (.own x))(k:∀b u,b≠e->h.get? b=some u->h'.get? b=some u)(RG:∃u,h'.get? e=some u)
  (new:fQ P w (cU H x o') h' x o'):lG P w (cU H x o') h':=λb u q=>by
 have Su:∀c y,H c=some (.own y)->c≠x:=λc y r z=>by subst z;rw[r]at mu;exact mu
 have Xy:∀c xs,H c=some (.au xs)->c≠x:=λc xs r z=>by subst z;rw[r]at mu;exact mu
 have Xz:∀c ob v,H c=some (.wU ob v)->c≠x:=λc ob v r z=>by subst z;rw[r]at mu;exact mu
 by_cases hb:b=x
 ·subst hb;rw[aA]at q;cases q;exact new
 ·rw[aN hb]at q;by_cases NO:b=e
  ·have q':H b=some (.own x):=by
    rcases he with z | z
    ·exact absurd (NO.trans z) hb
    ·rw[NO];exact z
   rw[q]at q';cases q';obtain⟨v,hv⟩:=RG;exact⟨v,by rw[NO];exact hv⟩
  ·refine(ok b u q).w5 (λc v hc r=>k c v ?_ r) (λc r=>by rw[aN (Su c b r)];exact r) (λc xs r=>by rw[aN (Xy c xs r)];exact r) λc ob v r=>by rw[aN (Xz c ob v r)];exact r
   rcases hc with rfl | hc
   ·exact NO
   ·rintro rfl
    rcases he with z | z
    ·exact Su c b hc z
    ·rw[hc]at z;cases z;exact hb rfl
end
structure Un (fs ex:List Addr) (H H':Hp) (h h':Heap):Prop where
 keep:∀b o,h.get? b=some o->H b=none->b∉fs->b∉ex->h'.get? b=some o
 slot:∀b o,h.get? b=some o->H b=none->b∈fs->b∉ex->∃sl,h'.get? b=some {o with slots:=sl}
 free:∀b o,h.get? b=some o->H b=none->b∉ex->H' b=none
 there:∀b o,h.get? b=some o->b∉ex->∃o',h'.get? b=some o'
 tups:∀b xs,H b=some (.au xs)->H' b=some (.au xs)
 frzs:∀b o u,H b=some (.wU o u)->H' b=some (.wU o u)
 tbls:∀b q,H b=some (.zE q)->H' b=some (.zE q)
section
variable {fs Mh ex ex':List Addr} {H H1 H2:Hp} {h h1 h2 h':Heap} {a x e:Addr} {o:HO}
def Un.any(u:Un fs ex H H1 h h1)(q:h.get? b=some ob)(n:H b=none)(hx:b∉ex):∃sl,h1.get? b=some {ob with slots:=sl}:=by
 by_cases hb:b∈fs
 ·exact u.slot b ob q n hb hx
 ·exact⟨ob.slots,u.keep b ob q n hb hx⟩
def Un.trans(a:Un fs ex H H1 h h1)(b:Un fs ex H1 H2 h1 h2):Un fs ex H H2 h h2 where
 keep:=λc ob q n hc hx=>b.keep c ob (a.keep c ob q n hc hx) (a.free c ob q n hx) hc hx
 slot:=λc ob q n hc hx=>by
  obtain⟨sl,e1⟩:=a.slot c ob q n hc hx;obtain⟨Sv,e2⟩:=b.slot c _ e1 (a.free c ob q n hx) hc hx;exact⟨Sv,e2⟩
 free:=λc ob q n hx=>by
  obtain⟨o',e1⟩:=a.there c ob q hx;exact b.free c o' e1 (a.free c ob q n hx) hx
 there:=λc ob q hx=>by
  obtain⟨o',e1⟩:=a.there c ob q hx;exact b.there c o' e1 hx
 tups:=λc xs q=>b.tups c xs (a.tups c xs q)
 frzs:=λc ob xs q=>b.frzs c ob xs (a.frzs c ob xs q)
 tbls:=λc q e=>b.tbls c q (a.tbls c q e)
def Un.kept(k:∀b u,h.get? b=some u->h'.get? b=some u):Un fs ex H H h h' :=
 ⟨λb ob q _ _ _=>k b ob q,λb ob q _ _ _=>⟨ob.slots,k b ob q⟩,λ_ _ _ n _=>n,λb ob q _=>⟨ob,k b ob q⟩,λ_ _ q=>q,λ_ _ _ q=>q,λ_ _ q=>q⟩
def Un.refl:Un fs ex H H h h:=Un.kept λ_ _ q=>q
def Un.laid(k:∀b u,h.get? b=some u->h'.get? b=some u)(hp:h.objs.size<=a)(hn:H a=none):Un fs ex H (cU H a o) h h' where
 keep:=λb u q _ _ _=>k b u q
 slot:=λb u q _ _ _=>⟨u.slots,k b u q⟩
 free:=λb u q n _=>by rw[aN (bC (cj (aH q) hp))];exact n
 there:=λb u q _=>⟨u,k b u q⟩
 tups:=λb xs q=>by rw[aN (dk q hn)];exact q
 frzs:=λb u xs q=>by rw[aN (dk q hn)];exact q
 tbls:=λb ps q=>by rw[aN (dk q hn)];exact q
def Un.write(mu:Wu (H x))(he:e=x\/H e=some (.own x))(k:∀b u,b≠e->h.get? b=some u->h'.get? b=some u)(RG:∃u,h'.get? e=some u):Un fs ex H (cU H x o) h h':=by
 have hx:∀b,H b=none->b≠x:=λb n z=>by subst z;rw[n]at mu;exact mu
 have hb:∀b,H b=none->b≠e:=λb n z=>by
  subst z;rcases he with r | r
  ·exact hx b n r
  ·rw[n]at r;cases r
 have hm:∀b u,H b=some u->¬Wu (some u)->b≠x:=λb u q nm z=>by subst z;rw[q]at mu;exact nm mu
 refine⟨λb u q n _ _=>k b u (hb b n) q,λb u q n _ _=>⟨u.slots,k b u (hb b n) q⟩,λb u q n _=>by rw[aN (hx b n)];exact n,λb u q _=>?_,
  λb xs q=>by rw[aN (hm b _ q λz=>z)];exact q,λb u xs q=>by rw[aN (hm b _ q λz=>z)];exact q,λb ps q=>by rw[aN (hm b _ q λz=>z)];exact q⟩
 by_cases NO:b=e
 ·subst NO;exact RG
 ·exact⟨u,k b u NO q⟩
end
noncomputable def Ww(h:Heap)(H:Hp):List Addr:=(List.range h.objs.size).filter λa=>(H a).isSome
def w6(h:Heap)(H:Hp):Heap:=W.hideAll h (Ww h H)
def C1(h:Heap)(H:Hp):(w6 h H).objs.size=h.objs.size:=W.hideAll_size _ _
def hidT_get(e:h.get? b=some o)(n:H b=none):(w6 h H).get? b=some o :=
 W.hideAll_get _ e λhm=>by
  have q:=(zC.mp hm).2;rw[n]at q;simp at q
def of_hidT(e:(w6 h H).get? b=some o):h.get? b=some o/\H b=none:=by
 have e':=W.of_hideAll (Ww h H) e;refine⟨e',?_⟩;cases q:H b with
 | none=>rfl
 | some x =>
  have hm:b∈Ww h H:=zC.mpr ⟨uL.mpr (aH e'),by simp[q]⟩
  have z:(w6 h H).get? b=none:=W.hideAll_none (Ww h H) hm;rw[z]at e;cases e
structure Mod (K:W.Frag) (mg:Str->Option Value) (base:Heap):Prop where
 kin:K.In base
 glob:base.Ns mainGlobals mg
 blt:∃mb,base.Ns builtinsNs mb/\∀x:Str,x≠"__name__"->mb x=bootBuiltins x
 nolimit:base.NoLimit
structure Cx where
 prog:Program
 w:World
 K:W.Frag
 mg:Str->Option Value
 base:Heap
 A:Around
 N:List Str
 s₀:Shared
 af:Hp
 env:Env
 aB:List Env
 stack:List Env
 ex:List Addr
 fn:Str->Bool
 calm:Bool
 pn:List (Addr×Obj)
 xe:Value->Shared->Prop
noncomputable def lN(l:List Env):List Addr:=l.filterMap (·.frame)
abbrev Cx.fs(X:Cx):List Addr:=lN X.aB
def RH(sc:Scope)(x:Str):Prop:=sc.names.lookup x=some .local\/sc.names.lookup x=some .cell\/sc.names.lookup x=some .free
def Mi(sc:Scope)(x:Str):Prop:=sc.names.lookup x=some .local\/sc.names.lookup x=some .cell
def Look(env:Env)(h:Heap)(m:Str->Option Value)(x:Str)(u:Value):Prop :=
 (env.kindOf x=some .local/\m x=some u)\/((env.kindOf x=some .cell\/env.kindOf x=some .free)/\∃c,env.cells.lookup x=some c/\h.IsCell c (some u))
noncomputable def Jf(x:Str):Str:=x++".<locals>."++"<lambda>"
def qd(K:W.Frag)(H:Hp):Prop:=∀x∈dI,∀c T,W.tabIn K x=some (c,T)->H T=some (.zE (Jf x))
structure Cx.Ok (X:Cx):Prop where
 mod:Mod X.K X.mg X.base
 kind:X.env.scope.kind=.function
 glob:X.env.globals=mainGlobals
 blt:X.env.builtins=builtinsNs
 above:X.s₀.heap.objs.size<=X.env.locals
 inj:∀x y c,X.env.cells.lookup x=some c->X.env.cells.lookup y=some c->x=y
 has:∀x,(X.env.kindOf x=some .cell\/X.env.kindOf x=some .free)->∃c,X.env.cells.lookup x=some c
 cab:∀x c,X.fn x=true->X.env.cells.lookup x=some c->X.s₀.heap.objs.size<=c
 hd:X.calm=true->X.A.handled=none
 frames:X.A.frames=some X.stack
 stk:X.stack=X.aB\/(X.stack=X.env::X.aB/\X.env.frame=some X.env.locals)
 exf:∀b∈X.ex,b≠X.env.locals/\∀x c,X.env.cells.lookup x=some c->c≠b
 bs:∀b o,X.base.get? b=some o->X.s₀.heap.get? b=some o/\X.af b=none
 bsz:X.base.objs.size<=X.s₀.heap.objs.size
 noex:∀b o,X.base.get? b=some o->b∉X.ex
 exfs:∀b∈X.ex,b∉X.fs
 funs:X.s₀.heap.FunFrames X.base X.aB
 frf:∀b∈X.fs,X.af b=none
 tabs:qd X.K X.af
structure Inv (X:Cx) (ah:List (Addr×Obj)) (σ:List (Option V)) (H:Hp) (s:Shared):Prop where
 ok:X.Ok
 os:s.os=X.s₀.os
 bare:AllBare s.gens
 base:Un X.fs X.ex X.af H X.s₀.heap s.heap
 loc:∃m,s.heap.Ns X.env.locals m/\∀(i:Nat) (x:Str) (v:V),X.N[i]?=some x->σ[i]?=some (some v)->RH X.env.scope x->∃u,RelV v u/\Look X.env s.heap m x u
 cell:∀x c,X.env.cells.lookup x=some c->∃v,s.heap.IsCell c v
 free:H X.env.locals=none
 freeC:∀x c,X.env.cells.lookup x=some c->H c=none
 pin:∀p∈X.pn++ah,s.heap.get? p.1=some p.2/\H p.1=none/\p.1≠X.env.locals/\p.1∉X.fs/\∀v,p.2.data≠.cell v
 hok:lG X.prog X.w H s.heap
 len:σ.length=X.N.length
section
variable {X:Cx} {ah:List (Addr×Obj)} {σ:List (Option V)} {H H':Hp} {s:Shared} {h':Heap}
def Cx.Ok.XA(ok:X.Ok)(e:X.base.get? b=some o):b∉X.fs:=λhb=>by
 have:=(ok.funs.mem hb).1;rw[e]at this;cases this
def Inv.bs(I:Inv X ah σ H s):∀b o,X.base.get? b=some o->s.heap.get? b=some o/\H b=none:=λb o e =>
 ⟨I.base.keep b o (I.ok.bs b o e).1 (I.ok.bs b o e).2 (I.ok.XA e) (I.ok.noex b o e),I.base.free b o (I.ok.bs b o e).1 (I.ok.bs b o e).2 (I.ok.noex b o e)⟩
def Inv.bk(I:Inv X ah σ H s):∀b o,X.base.get? b=some o->s.heap.get? b=some o:=λb o e=>(I.bs b o e).1
def Inv.mod(I:Inv X ah σ H s):Mod X.K X.mg X.base:=I.ok.mod
def Inv.og(I:Inv X ah σ H s):X.K.In s.heap:=I.ok.mod.kin.keeps I.bk
def Inv.lt(I:Inv X ah σ H s):X.env.locals<s.heap.objs.size:=let ⟨_,hn,_⟩:=I.loc;hn.lt
def Inv.sz(I:Inv X ah σ H s):X.s₀.heap.objs.size<=s.heap.objs.size:=aY I.ok.above (pU I.lt)
def Inv.XB(I:Inv X ah σ H s){a:Addr}(h:s.heap.objs.size<=a):a∉X.fs:=λhb=>by
 obtain⟨_,o,ho,_⟩:=I.ok.funs.mem hb;exact absurd (cj (aH ho) (aY I.sz h)) (fH _)
def Inv.NP(I:Inv X ah σ H s):∀x c,X.env.cells.lookup x=some c->c≠X.env.locals:=λx c e z=>by
 obtain⟨v,o,ho,hd⟩:=I.cell x c e;obtain⟨m,⟨o',es,ep,mP,El,_⟩,_⟩:=I.loc;rw[z,mP]at ho;cases ho;rw[El]at hd;cases hd
def Inv.funs(I:Inv X ah σ H s):s.heap.FunFrames X.base X.aB:=by
 have all:∀l,(∀b∈lN l,b∈X.fs)->X.s₀.heap.FunFrames X.base l->s.heap.FunFrames X.base l:=by
  intro l;induction l with
  | nil=>intro _ _;trivial
  | cons env r ih =>
   intro hs hl;obtain⟨hk,⟨L,o,hf,hn,ho,hd⟩,hr⟩:=hl;have hL:=hs L (by unfold lN;rw[ze,hf];exact dw)
   obtain⟨sl,e⟩:=I.base.slot L o ho (I.ok.frf L hL) hL λz=>I.ok.exfs L z hL
   exact⟨hk,⟨L,_,hf,hn,e,hd⟩,ih (λb hb=>hs b (by unfold lN;rw[ze,hf];exact cG _ hb)) hr⟩
 exact all X.aB (λ_ hb=>hb) I.ok.funs
def Inv.stack(I:Inv X ah σ H s):s.heap.FunFrames X.base X.stack:=by
 rcases I.ok.stk with e | ⟨e,hf⟩
 ·rw[e];exact I.funs
 ·rw[e];obtain⟨m,hn,_⟩:=I.loc;refine .cons (by rw[I.ok.kind];decide) hf hn ?_ I.funs
  exact Heap.get?_none_of_le (aY I.ok.bsz I.ok.above)
def Inv.uY(I:Inv X ah σ H s):∀b∈lN X.stack,b∈X.env.locals::X.fs:=λb hb=>by
 rcases I.ok.stk with e | ⟨e,hf⟩
 ·rw[e]at hb;exact cG _ hb
 ·rw[e]at hb;unfold lN at hb;rw[ze,hf]at hb;exact hb
def Inv.uZ(I:Inv X ah σ H s):∀b∈lN X.stack,H b=none:=λb hb=>by
 rcases aC.mp (I.uY b hb)with e | hb
 ·rw[e];exact I.free
 ·obtain⟨_,o,ho,_⟩:=I.ok.funs.mem hb;exact I.base.free b o ho (I.ok.frf b hb) λz=>I.ok.exfs b z hb
def Inv.tabs(I:Inv X ah σ H s):qd X.K H:=λx hx c T e=>I.base.tbls T _ (I.ok.tabs x hx c T e)
def Inv.step{g':Array GenState}{t':Nat}{d':Drawn}{ch:List Addr}(I:Inv X ah σ H s)
  (Mj:∀b∈ch,(b∈X.ex\/X.s₀.heap.objs.size<=b)/\b≠X.env.locals/\(∀x c,X.env.cells.lookup x=some c->c≠b)/\∀p∈X.pn++ah,p.1≠b)
  (keep:∀b o,b≠X.env.locals->b∉X.fs->b∉ch->s.heap.get? b=some o->H b=none->h'.get? b=some o)
  (slot:∀b o,b≠X.env.locals->b∈X.fs->b∉ch->s.heap.get? b=some o->H b=none->∃sl,h'.get? b=some {o with slots:=sl}) (free:∀b o,b∉ch->s.heap.get? b=some o->H b=none->H' b=none)
  (there:∀b o,b∉ch->s.heap.get? b=some o->∃o',h'.get? b=some o')
  (tups:∀b xs,H b=some (.au xs)->H' b=some (.au xs)) (frzs:∀b o u,H b=some (.wU o u)->H' b=some (.wU o u)) (tbls:∀b q,H b=some (.zE q)->H' b=some (.zE q))
  (ns:∀m,s.heap.Ns X.env.locals m->h'.Ns X.env.locals m) (hok:lG X.prog X.w H' h') (hg:AllBare g') :
  Inv X ah σ H' {s with heap:=h',gens:=g',drawn:=d',toks:=t'}:=by
 have neL:∀b o,X.s₀.heap.get? b=some o->b≠X.env.locals:=λb o e=>bC (cj (aH e) I.ok.above)
 have Wx:∀b o,X.s₀.heap.get? b=some o->b∉X.ex->b∉ch:=λb o e hx hb=>by
  rcases(Mj b hb).1 with z | z
  ·exact hx z
  ·exact absurd (cj (aH e) z) (fH _)
 have cellK:∀x c,X.env.cells.lookup x=some c->∀v,s.heap.IsCell c v->h'.IsCell c v:=by
  rintro x c e v ⟨o,ho,hd⟩
  have Sw:c∉ch:=by grind
  by_cases hc:c∈X.fs
  ·obtain⟨sl,q⟩:=slot c o (I.NP x c e) hc Sw ho (I.freeC x c e);exact⟨_,q,hd⟩
  ·exact⟨o,keep c o (I.NP x c e) hc Sw ho (I.freeC x c e),hd⟩
 refine⟨I.ok,I.os,hg,⟨λb o e n hb hx=>?_,λb o e n hb hx=>?_,λb o e n hx=>?_,λb o e hx=>?_,λb xs e=>tups b xs (I.base.tups b xs e),λb o xs e=>frzs b o xs (I.base.frzs b o xs e),λb ps e=>?_⟩,?_,λx c e=>?_,?_,λx c e=>?_,λp hp=>?_,hok,I.len⟩
 ·exact keep b o (neL b o e) hb (Wx b o e hx) (I.base.keep b o e n hb hx) (I.base.free b o e n hx)
 ·obtain⟨sl,e1⟩:=I.base.slot b o e n hb hx;obtain⟨Sv,e2⟩:=slot b _ (neL b o e) hb (Wx b o e hx) e1 (I.base.free b o e n hx);exact⟨Sv,e2⟩
 ·obtain⟨o',e1⟩:=I.base.there b o e hx;exact free b o' (Wx b o e hx) e1 (I.base.free b o e n hx)
 ·obtain⟨o',e1⟩:=I.base.there b o e hx;exact there b o' (Wx b o e hx) e1
 ·exact tbls b ps (I.base.tbls b ps e)
 ·obtain⟨m,hn,hl⟩:=I.loc;refine⟨m,ns m hn,λi x v e1 e2 e3=>?_⟩
  obtain⟨u,r,l⟩:=hl i x v e1 e2 e3;refine⟨u,r,?_⟩;rcases l with l | ⟨k,c,e,z⟩
  ·exact .inl l
  ·exact .inr ⟨k,c,e,cellK x c e _ z⟩
 ·obtain⟨v,z⟩:=I.cell x c e;exact⟨v,cellK x c e v z⟩
 ·obtain⟨m,⟨o,_,_,ho,_⟩,_⟩:=I.loc;exact free _ o (λz=>(Mj _ z).2.1 rfl) ho I.free
 ·obtain⟨v,o,ho,hd⟩:=I.cell x c e;exact free c o (λz=>(Mj c z).2.2.1 x c e rfl) ho (I.freeC x c e)
 ·obtain⟨e,n,ne,nf,d⟩:=I.pin p hp;have Sw:p.1∉ch:=by grind
  exact⟨keep p.1 p.2 ne nf Sw e n,free p.1 p.2 Sw e n,ne,nf,d⟩
def Inv.un{t':Nat}(I:Inv X ah σ H s)(u:Un X.fs [] H H' s.heap h')(hok:lG X.prog X.w H' h'):Inv X ah σ H' {s with heap:=h',toks:=t'}:=by
 obtain⟨m,⟨o,es,ep,ho,r⟩,_⟩:=id I.loc;obtain⟨sl,hL⟩:=u.any ho I.free (by simp)
 exact I.step (ch:=[]) (λ_ z=>nomatch z) (λb o _ hb _ e n=>u.keep b o e n hb (by simp)) (λb o _ hb _ e n=>u.slot b o e n hb (by simp)) (λb o _ e n=>u.free b o e n (by simp)) (λb o _ e=>u.there b o e (by simp)) u.tups u.frzs u.tbls (λm' hm=>by
  obtain⟨o',RI,XC,mP,r'⟩:=hm;rw[ho]at mP;cases mP;exact⟨_,RI,XC,hL,r'⟩) hok I.bare
def Inv.call{g':Array GenState}{t':Nat}{d':Drawn}{ch:List Addr}(I:Inv X ah σ H s)(u:Un (lN X.stack) ch H H' s.heap h')(hok:lG X.prog X.w H' h')(hg:AllBare g')
  (Mj:∀b∈ch,(b∈X.ex\/X.s₀.heap.objs.size<=b)/\b≠X.env.locals/\(∀x c,X.env.cells.lookup x=some c->c≠b)/\∀p∈X.pn++ah,p.1≠b) :
  Inv X ah σ H' {s with heap:=h',gens:=g',drawn:=d',toks:=t'}:=by
 obtain⟨m,⟨o,es,ep,ho,r⟩,_⟩:=id I.loc;obtain⟨sl,hL⟩:=u.any ho I.free λz=>(Mj _ z).2.1 rfl
 exact I.step Mj (λb o hL hb hc e n=>u.keep b o e n (λz=>(aC.mp (I.uY b z)).elim hL hb) hc) (λb o _ _ hc e n=>u.any e n hc) (λb o hc e n=>u.free b o e n hc) (λb o hc e=>u.there b o e hc) u.tups u.frzs u.tbls (λm' hm=>by
  obtain⟨o',RI,XC,mP,r'⟩:=hm;rw[ho]at mP;cases mP;exact⟨_,RI,XC,hL,r'⟩) hok hg
def Inv.turned{t':Nat}(I:Inv X ah σ H s)(k:∀b o,b≠it->s.heap.get? b=some o->h'.get? b=some o)(hn:H it=none)(hL:it≠X.env.locals)
  (h1:it∈X.ex\/X.s₀.heap.objs.size<=it) (h2:∀x c,X.env.cells.lookup x=some c->c≠it) (h3:∀p∈X.pn++ah,p.1≠it):Inv X ah σ H {s with heap:=h',toks:=t'}:=by
 have Sx:∀b u,H b=some u->b≠it:=λb u e z=>by rw[z,hn]at e;cases e
 refine I.step (ch:=[it]) (λb hb=>?_) (λb o _ _ hc e _=>k b o (λz=>hc (by simp[z])) e) (λb o _ _ hc e _=>⟨o.slots,k b o (λz=>hc (by simp[z])) e⟩) (λ_ _ _ _ n=>n)
  (λb o hc e=>⟨o,k b o (λz=>hc (by simp[z])) e⟩) (λ_ _ e=>e) (λ_ _ _ e=>e) (λ_ _ e=>e) (λm hm=>?_) (λb u e=>?_) I.bare
 ·have e:b=it:=by simpa using hb
  subst e;exact⟨h1,hL,h2,h3⟩
 ·obtain⟨o,es,ep,ho,r⟩:=hm;exact⟨o,es,ep,k _ o (bU hL) ho,r⟩
 ·refine(I.hok b u e).w5 (λc v hc q=>k c v ?_ q) (λ_ q=>q) (λ_ _ q=>q) λ_ _ _ q=>q
  rcases hc with z | z
  ·rw[z];exact Sx b u e
  ·exact Sx c _ z
def Inv.tok(I:Inv X ah σ H s)(t:Nat):Inv X ah σ H {s with toks:=t}:=I.un Un.refl I.hok
def Inv.kept(I:Inv X ah σ H s)(k:∀b u,s.heap.get? b=some u->h'.get? b=some u):Inv X ah σ H {s with heap:=h',toks:=t'}:=I.un (Un.kept k) (I.hok.kept k)
def Inv.laid{a:Addr}{o:HO}{t':Nat}(I:Inv X ah σ H s)(k:∀b u,s.heap.get? b=some u->h'.get? b=some u)(hp:s.heap.objs.size<=a)(new:fQ X.prog X.w (cU H a o) h' a o) :
  Inv X ah σ (cU H a o) {s with heap:=h',toks:=t'}:=I.un (Un.laid k hp (I.hok.fresh hp)) (I.hok.laid k hp new)
def Inv.write(I:Inv X ah σ H s)(mu:Wu (H x))(he:e=x\/H e=some (.own x))(k:∀b u,b≠e->s.heap.get? b=some u->h'.get? b=some u)(RG:∃u,h'.get? e=some u)
  (new:fQ X.prog X.w (cU H x o) h' x o):Inv X ah σ (cU H x o) {s with heap:=h',toks:=t'}:=I.un (Un.write mu he k RG) (I.hok.write mu he k RG new)
def Inv.lO(I:Inv X ah σ H s)(h:∀p∈Sy,s.heap.get? p.1=some p.2/\H p.1=none/\p.1≠X.env.locals/\p.1∉X.fs/\∀v,p.2.data≠.cell v):Inv X Sy σ H s :=
 ⟨I.ok,I.os,I.bare,I.base,I.loc,I.cell,I.free,I.freeC,λp hp=>(cR.mp hp).elim (λz=>I.pin p (mT _ z)) (h p),I.hok,I.len⟩
def w9{N:List Str}(hN:N.Nodup){i j:Nat}(a:N[i]?=some x)(b:N[j]?=some x):i=j:=by
 obtain⟨h1,e1⟩:=dS.mp a;obtain⟨h2,e2⟩:=dS.mp b;exact(List.getElem_inj hN).mp (e1.trans e2.symm)
def store_ok2{M:Model}{A:Around}{E:Value->Shared->Prop}{i:Nat}{v:V}{u:Value}{Q:Unit->Shared->Prop}(I:Inv X ah σ H s)(hN:X.N.Nodup)(hi:X.N[i]?=some x)(hx:Mi X.env.scope x)(r:RelV v u)
  (h:∀s',Inv X ah (σ.set i (some v)) H s'->(∃a,Heap.SameBut a s.heap s'.heap/\(a=X.env.locals\/X.env.cells.lookup x=some a))->Q () s') (hf:X.fn x=true\/X.env.scope.names.lookup x=some .local):wpAny M A (storeName X.env x u) Q E s:=by
 obtain⟨m,hn,hl⟩:=id I.loc;have XD:(X.env.scope.kind==.class || (X.env.scope.kind==.module&&X.env.locals != X.env.globals))=false:=by rw[I.ok.kind];rfl
 have Sz:i<σ.length:=by rw[I.len];exact(dS.mp hi).1
 have NP:=I.NP;have Bk:∀{a:Addr} {h':Heap},(∃o,s.heap.get? a=some o/\H a=none)->Heap.SameBut a s.heap h'->lG X.prog X.w H h':=λ{a h'} ha hs b ob e=>by
  obtain⟨_,_,xa⟩:=ha;refine(I.hok b ob e).w5 (λc w' hc q=>(hs.2 c ?_).trans q) (λ_ q=>q) (λ_ _ q=>q) λ_ _ _ q=>q
  rintro rfl
  rcases hc with rfl | hc
  ·grind
  ·grind
 rcases hx with hk | hk
 ·refine wpAny_storeName_local hk hn (λh' hn' hs=>?_) XD
  obtain⟨oL,_,_,hoL,_⟩:=id hn;refine h _ ⟨I.ok,I.os,I.bare,⟨λb o e n hb hx=>?_,λb o e n hb hx=>?_,I.base.free,λb o e hx=>?_,I.base.tups,I.base.frzs,I.base.tbls⟩,⟨_,hn',λj y v' e1 e2 e3=>?_⟩,λy c e=>?_,I.free,I.freeC,λp hp=>?_,Bk ⟨oL,hoL,I.free⟩ hs,by simpa using I.len⟩ ⟨_,hs,.inl rfl⟩
  ·exact(hs.2 b (bC (cj (aH e) I.ok.above))).trans (I.base.keep b o e n hb hx)
  ·obtain⟨sl,e1⟩:=I.base.slot b o e n hb hx;exact⟨sl,(hs.2 b (bC (cj (aH e) I.ok.above))).trans e1⟩
  ·obtain⟨o',e1⟩:=I.base.there b o e hx;exact⟨o',(hs.2 b (bC (cj (aH e) I.ok.above))).trans e1⟩
  ·by_cases hj:j=i
   ·subst hj;rw[hi]at e1;cases e1;rw[ux Sz]at e2;cases e2;exact⟨u,r,.inl ⟨hk,by simp⟩⟩
   ·rw[bW (bU hj)]at e2;obtain⟨u',r',q⟩:=hl j y v' e1 e2 e3;refine⟨u',r',?_⟩;rcases q with⟨k,e⟩ | ⟨k,c,e,z⟩
    ·refine .inl ⟨k,?_⟩;have:y≠x:=λe=>hj (w9 hN e1 (e▸hi))
     simp[this,e]
    ·exact .inr ⟨k,c,e,z.sameBut hs (NP y c e)⟩
  ·obtain⟨w',z⟩:=I.cell y c e;exact⟨w',z.sameBut hs (NP y c e)⟩
  ·obtain⟨e,n,ne,nf,d⟩:=I.pin p hp;exact⟨(hs.2 p.1 ne).trans e,n,ne,nf,d⟩
 ·have SA:X.fn x=true:=by
   grind
  obtain⟨c,hc⟩:=I.ok.has x (.inl hk);obtain⟨w',z⟩:=I.cell x c hc;refine wpAny_storeName_cell I.ok.kind hk hc z (λh' Em hs=>?_)
  obtain⟨oc,hoc,aci⟩:=id z;refine h {s with heap:=h'} ⟨I.ok,I.os,I.bare,⟨λb o e n hb hx=>?_,λb o e n hb hx=>?_,I.base.free,λb o e hx=>?_,I.base.tups,I.base.frzs,I.base.tbls⟩,⟨m,hn.sameBut hs (bU (NP x c hc)),λj y v' e1 e2 e3=>?_⟩,λy c' e=>?_,I.free,I.freeC,λp hp=>?_,Bk ⟨oc,hoc,I.freeC x c hc⟩ hs,by simpa using I.len⟩ ⟨c,hs,.inr hc⟩
  ·exact(hs.2 b (bC (cj (aH e) (I.ok.cab x c SA hc)))).trans (I.base.keep b o e n hb hx)
  ·obtain⟨sl,e1⟩:=I.base.slot b o e n hb hx;exact⟨sl,(hs.2 b (bC (cj (aH e) (I.ok.cab x c SA hc)))).trans e1⟩
  ·obtain⟨o',e1⟩:=I.base.there b o e hx;exact⟨o',(hs.2 b (bC (cj (aH e) (I.ok.cab x c SA hc)))).trans e1⟩
  ·by_cases hj:j=i
   ·subst hj;rw[hi]at e1;cases e1;rw[ux Sz]at e2;cases e2;exact⟨u,r,.inr ⟨.inl hk,c,hc,Em⟩⟩
   ·rw[bW (bU hj)]at e2;obtain⟨u',r',q⟩:=hl j y v' e1 e2 e3;refine⟨u',r',?_⟩;rcases q with q | ⟨k,c',e,z'⟩
    ·exact .inl q
    ·refine .inr ⟨k,c',e,z'.sameBut hs ?_⟩
     rintro rfl
     exact hj (w9 hN e1 (I.ok.inj _ _ _ e hc▸hi))
  ·by_cases NQ:c'=c
   ·grind
   ·obtain⟨w2,z2⟩:=I.cell y c' e;exact⟨w2,z2.sameBut hs NQ⟩
  ·obtain⟨e,n,ne,nf,d⟩:=I.pin p hp;refine⟨(hs.2 p.1 ?_).trans e,n,ne,nf,d⟩;intro q;rw[q,hoc]at e;have q':=aX e;exact d w' (by grind)
def qe(I:Inv X ah σ H s)(hN:X.N.Nodup)(hi:X.N[i]?=some x)(hx:Mi X.env.scope x)(r:RelV v u)
  (h:∀s',Inv X ah (σ.set i (some v)) H s'->Q () s') (hf:X.fn x=true\/X.env.scope.names.lookup x=some .local):wpAny M A (storeName X.env x u) Q E s :=
 store_ok2 I hN hi hx r (λs' I' _=>h s' I') hf
def Inv.Ml(I:Inv X ah σ H s)(ho:s'.os=s.os)(u:Un (lN X.stack) ch H H' s.heap s'.heap)(hok:lG X.prog X.w H' s'.heap)(hg:AllBare s'.gens)
  (Mj:∀b∈ch,(b∈X.ex\/X.s₀.heap.objs.size<=b)/\b≠X.env.locals/\(∀x c,X.env.cells.lookup x=some c->c≠b)/\∀p∈X.pn++ah,p.1≠b):Inv X ah σ H' s':=by
 obtain⟨h',g',d',t',o'⟩:=s';have e:=ho;subst e;exact I.call u hok hg Mj
end
abbrev XK:=Value->Option Addr->Hp->Prop
abbrev St:=List (Option V)
abbrev VK:=V->Hp->Prop
abbrev TE:=St->Hp->VK->Prop
abbrev TT:=St->Hp->(Bool->Hp->Prop)->Prop
abbrev TA:=St->Hp->(List V->Hp->Prop)->Prop
structure xb where
 nx:St->Hp->Prop
 rt:VK
 bk:St->Hp->Prop:=λ_ _=>False
 ct:St->Hp->Prop:=λ_ _=>False
abbrev TS:=xb->St->Hp->Prop
def EP(X:Cx)(ah:List (Addr×Obj))(σ:St)(Q:VK)(u:Value)(s':Shared):Prop:=∃v H',Inv X ah σ H' s'/\RelV v u/\Q v H'
def TP(X:Cx)(ah:List (Addr×Obj))(σ:St)(Q:Bool->Hp->Prop)(b:Bool)(s':Shared):Prop:=∃H',Inv X ah σ H' s'/\Q b H'
def AP(X:Cx)(ah:List (Addr×Obj))(σ:St)(Q:List V->Hp->Prop)(us:List Value)(s':Shared):Prop:=∃vs H',Inv X ah σ H' s'/\Vals vs us/\Q vs H'
def SP(X:Cx)(ah:List (Addr×Obj))(D:xb)(f:Flow)(s':Shared):Prop :=
 match f with
 | .next=>∃bG H',Inv X ah bG H' s'/\D.nx bG H'
 | .brk=>∃bG H',Inv X ah bG H' s'/\D.bk bG H'
 | .cont=>∃bG H',Inv X ah bG H' s'/\D.ct bG H'
 | .ret u=>∃v bG H',Inv X ah bG H' s'/\RelV v u/\D.rt v H'
def PE(X:Cx)(e:Expr)(t:TE):Prop :=
 ∀(ah:List (Addr×Obj)) (s:Shared) (σ:St) (H:Hp) (Q:VK),Inv X ah σ H s->t σ H Q->wpAny (model X.prog X.w) X.A (eval e X.env) (EP X ah σ Q) X.xe s
def PT(X:Cx)(e:Expr)(t:TT):Prop :=
 ∀(ah:List (Addr×Obj)) (s:Shared) (σ:St) (H:Hp) (Q:Bool->Hp->Prop),Inv X ah σ H s->t σ H Q->wpAny (model X.prog X.w) X.A (isTrue e X.env (eval e X.env)) (TP X ah σ Q) X.xe s
def PW(X:Cx)(e:Expr)(t:TT):Prop :=
 ∀(iU:Sem Value) (ah:List (Addr×Obj)) (s:Shared) (σ:St) (H:Hp) (Q:Bool->Hp->Prop),Inv X ah σ H s->t σ H Q->wpAny (model X.prog X.w) X.A (isTrue e X.env iU) (TP X ah σ Q) X.xe s
def PW.pt(h:PW X e t):PT X e t:=h _
def PA(X:Cx)(es:List Expr)(t:TA):Prop :=
 ∀(pos:Pos) (ah:List (Addr×Obj)) (s:Shared) (σ:St) (H:Hp) (Q:List V->Hp->Prop),Inv X ah σ H s->t σ H Q->wpAny (model X.prog X.w) X.A (spliced (backTo pos (starEach es X.env))) (AP X ah σ Q) X.xe s
def PS(X:Cx)(st:Stmt)(t:TS):Prop :=
 ∀(ah:List (Addr×Obj)) (s:Shared) (σ:St) (H:Hp) (D:xb),Inv X ah σ H s->t D σ H->wpAny (model X.prog X.w) X.A (exec st X.env) (SP X ah D) X.xe s
def PSs(X:Cx)(st:List Stmt)(t:TS):Prop :=
 ∀(ah:List (Addr×Obj)) (s:Shared) (σ:St) (H:Hp) (D:xb),Inv X ah σ H s->t D σ H->wpAny (model X.prog X.w) X.A (execs st X.env) (SP X ah D) X.xe s
def thn{α:Type}{t:Sem α}{Q Q':α->Shared->Prop}{M:Model}{A:Around}{E:Value->Shared->Prop}(h:wpAny M A t Q E s)(hQ:∀a s,Q a s->Q' a s):wpAny M A t Q' E s:=jq h hQ λ_ _ x=>x
section
variable {X:Cx}
def Jg(i:Nat):TE:=λσ H Q=>∃v,σ[i]?=some (some v)/\Q v H
def tC(v:V):TE:=λ_ H Q=>Q v H
def pe_var{i:Nat}{x:Str}{pos:Pos}(hN:X.N[i]?=some x)(hv:RH X.env.scope x)(hd:(x==("__debug__":Str))=false:=by decide)(wI:(x==("__classdict__":Str))=false:=by decide):PE X (.Name x pos) (Jg i):=by
 intro ah s σ H Q I h;obtain⟨v,e,h⟩:=h;obtain⟨m,hn,hl⟩:=I.loc;obtain⟨u,r,l⟩:=hl i x v hN e hv;have jc:EP X ah σ Q u s:=⟨v,H,I,r,h⟩;rcases l with⟨hk,hm⟩ | ⟨hk,c,hc,sR⟩
 ·exact wpAny_Name (wpAny_loadName_local I.ok.kind hk hn hm jc) hd
 ·rcases hk with hk | hk
  ·exact wpAny_Name (wpAny_loadName_cell I.ok.kind hk hc sR jc) hd
  ·exact wpAny_Name (wpAny_loadName_free I.ok.kind hk hc sR jc wI) hd
def NR{i j pos}:PE X (.Constant (.int i) j pos) (tC (.int i)):=λ_ _ _ H _ I h=>wpAny_Constant_int ⟨.int i,H,I.tok _,⟨_,rfl⟩,h⟩
def SD{b j pos}:PE X (.Constant (.bool b) j pos) (tC (.bl b)):=λ_ _ _ H _ I h=>Constant_bool ⟨.bl b,H,I,rfl,h⟩
def NS{j pos}:PE X (.Constant .none j pos) (tC .aL):=λ_ _ _ H _ I h=>Constant_none ⟨.aL,H,I,rfl,h⟩
def NT{x j pos}:PE X (.Constant (.str x) j pos) (tC (.str x)):=λ_ _ _ H _ I h=>Calls.Constant_str ⟨.str x,H,I.tok _,⟨_,rfl⟩,h⟩
def Gl(X:Cx)(x:Str):Prop:=X.env.kindOf x=some .globalImplicit
def ld_glob{E:Value->Shared->Prop}{ah:List (Addr×Obj)}{s:Shared}{σ:St}{H:Hp}{x:Str}{u:Value}{pos:Pos}{Q:Value->Shared->Prop}(I:Inv X ah σ H s)(hg:Gl X x)(hm:X.mg x=some u)(h:Q u s)
  (hd:(x==("__debug__":Str))=false:=by decide):wpAny (model X.prog X.w) X.A (eval (.Name x pos) X.env) Q E s :=
 Ey I.ok.kind hg (Calls.loadGlobal_global (by rw[I.ok.glob];exact I.mod.glob.keeps I.bk) hm h) hd
def ld_blt{E:Value->Shared->Prop}{ah:List (Addr×Obj)}{s:Shared}{σ:St}{H:Hp}{x:Str}{u:Value}{pos:Pos}{Q:Value->Shared->Prop}(I:Inv X ah σ H s)(hg:Gl X x)(hm:X.mg x=none)(hv:bootBuiltins x=some u)(h:Q u s)
  (hn:x≠"__name__":=by decide) (hd:(x==("__debug__":Str))=false:=by decide):wpAny (model X.prog X.w) X.A (eval (.Name x pos) X.env) Q E s:=by
 obtain⟨mb,h1,h2⟩:=I.mod.blt;exact Ey I.ok.kind hg (Calls.loadGlobal_builtin (by rw[I.ok.glob];exact I.mod.glob.keeps I.bk) hm (by rw[I.ok.blt];exact h1.keeps I.bk) ((h2 x hn).trans hv) h) hd
def u0(hg:Gl X x)(hm:X.mg x=some u)(r:RelV v u)(hd:(x==("__debug__":Str))=false:=by decide):PE X (.Name x pos) (tC v) :=
 λ_ _ _ H _ I h=>ld_glob I hg hm ⟨v,H,I,r,h⟩ hd
def Jh{x:Str}{v:V}{u:Value}{pos:Pos}(hg:Gl X x)(hm:X.mg x=none)(hv:bootBuiltins x=some u)(r:RelV v u)(hn:x≠"__name__":=by decide)(hd:(x==("__debug__":Str))=false:=by decide):PE X (.Name x pos) (tC v) :=
 λ_ _ _ H _ I h=>ld_blt I hg hm hv ⟨v,H,I,r,h⟩ hn hd
variable {a b:Expr} {ta tb:TE} {pos:Pos}
variable {tA Wy:TT} {rest:List Expr}
def XE(t u:TT):TT:=λσ H Q=>t σ H λc H1=>if c=true then u σ H1 Q else Q false H1
def tOr(t u:TT):TT:=λσ H Q=>t σ H λc H1=>if c=true then Q true H1 else u σ H1 Q
def XF(t:TT):TT:=λσ H Q=>t σ H λc H1=>Q (!c) H1
def Ji(ha:PT X a tA):PW X (.BoolOp .And [a] pos) tA:=by
 intro wh ah s σ H Q I h;refine isTrue_and (thn (ha ah s σ H Q I h) λc s1 e=>?_)
 cases c with
 | true=>exact isTrue_and_nil e
 | false=>exact e
def NU(ha:PT X a tA):PW X (.BoolOp .Or [a] pos) tA:=by
 intro wh ah s σ H Q I h;refine isTrue_or (thn (ha ah s σ H Q I h) λc s1 e=>?_)
 cases c with
 | false=>exact isTrue_or_nil e
 | true=>exact e
def NV(ha:PT X a tA)(hb:PW X (.BoolOp .And (b::rest) pos) Wy):PW X (.BoolOp .And (a::b::rest) pos) (XE tA Wy):=by
 intro wh ah s σ H Q I h;refine isTrue_and (thn (ha ah s σ H _ I h) λc s1 ⟨H1,I1,q1⟩=>?_)
 cases c with
 | true=>exact hb wh ah s1 σ H1 Q I1 q1
 | false=>exact⟨H1,I1,q1⟩
def SE(ha:PT X a tA)(hb:PW X (.BoolOp .Or (b::rest) pos) Wy):PW X (.BoolOp .Or (a::b::rest) pos) (tOr tA Wy):=by
 intro wh ah s σ H Q I h;refine isTrue_or (thn (ha ah s σ H _ I h) λc s1 ⟨H1,I1,q1⟩=>?_)
 cases c with
 | true=>exact⟨H1,I1,q1⟩
 | false=>exact hb wh ah s1 σ H1 Q I1 q1
def NW(ha:PT X a tA):PT X (.UnaryOp .Not a pos) (XF tA):=by
 intro ah s σ H Q I h;exact isTrue_not (ha ah s σ H (λc H1=>Q (!c) H1) I h)
def SF(ta:TE):TE:=λσ H Q=>ta σ H λx H1=>∃c,x=.bl c/\Q (.bl (!c)) H1
def E5{op}(h:PE X a t):PE X (.BoolOp op [a] pos) t:=λah s σ H Q I hw=>BoolOp_one (h ah s σ H Q I hw)
def NX(ha:PE X a ta):PE X (.UnaryOp .Not a pos) (SF ta):=by
 intro ah s σ H Q I h;refine UnaryOp_ (thn (ha ah s σ H _ I h) λv s1 ⟨x,H1,I1,r1,q1⟩=>?_)
 obtain⟨c,rfl,q1⟩:=q1;cases r1;exact not_of (ji ⟨.bl (!c),H1,I1,rfl,q1⟩)
def tIf(t:TT)(ta tb:TE):TE:=λσ H Q=>t σ H λc H1=>if c=true then ta σ H1 Q else tb σ H1 Q
def E6(hc:PT X c tA)(ha:PE X a ta)(hb:PE X b tb):PE X (.IfExp c a b pos) (tIf tA ta tb):=by
 intro ah s σ H Q I h;refine wpAny_IfExp (thn (hc ah s σ H _ I h) λd s1 ⟨H1,I1,q1⟩=>?_)
 cases d with
 | true=>exact ha ah s1 σ H1 Q I1 q1
 | false=>exact hb ah s1 σ H1 Q I1 q1
end
def u6(K:W.Frag)(H:Hp)(a:Addr)(xs:List V):Prop :=
 Rd H a (.lst xs) \/
  ∃(o:Obj) (ax:Array Value) (n:Nat),K.lookup a=some o/\o.cls=.type "list"/\o.dict=none/\o.data=.seq ax n/\ax.size<=sizeLine/\Vals xs ax.toList
def iR.sq{K:W.Frag}{H:Hp}{a:Addr}{xs:List V}(h:iR K H a xs):u6 K H a xs:=by
 rcases h with h | ⟨ax,n,e,z,r⟩
 ·exact .inl h
 ·exact .inr ⟨_,ax.toArray,n,e,rfl,rfl,rfl,by grind,by grind⟩
noncomputable def XG:Value->Option V
 | .none=>some .aL
 | .bool b=>some (.bl b)
 | .int i _=>some (.int i)
 | .str x _=>some (.str x)
 | .bytes b _=>some (.RB b)
 | .float b _=>some (.Wo b)
 | .ref a=>some (.ref a)
 | .type n=>some (.ty n)
 | _=>none
def RelV.abs(r:RelV x u):XG u=some x:=by
 cases x with
 | aL=>cases r;rfl
 | bl _=>cases r;rfl
 | int _=>obtain⟨t,rfl⟩:=r;rfl
 | str _=>obtain⟨t,rfl⟩:=r;rfl
 | RB _=>obtain⟨t,rfl⟩:=r;rfl
 | Wo _=>obtain⟨t,rfl⟩:=r;rfl
 | ref _=>cases r;rfl
 | ty _=>cases r;rfl
def RelV.inj(r:RelV x u)(q:RelV y u):x=y:=aX (r.abs.symm.trans q.abs)
theorem Vals.inj:∀{xs ys:List V} {us:List Value},Vals xs us->Vals ys us->xs=ys
 | _,_,_,.nil,.nil=>rfl
 | _,_,_,.cons r t,.cons r' t'=>by rw[r.inj r',Vals.inj t t']
section
variable {X:Cx} {ah:List (Addr×Obj)} {σ:St} {H:Hp} {s:Shared} {a:Addr} {xs ys:List V}
def iC.of{K:W.Frag}(h:H a=some (.au xs)):iC K H a xs:=.inl (.inl h)
def Inv.list(I:Inv X ah σ H s)(h:u6 X.K H a xs):∃ax:List Value,Vals xs ax/\PlainL s.heap a ax.toArray/\xs.length<=sizeLine:=by
 rcases h with h | ⟨o,ax,n,hk,hc,hd,hs,hz,r⟩
 ·obtain⟨z,ax,n,r,e⟩:=h.ok I.hok;exact⟨ax,r,⟨_,n,e,rfl,rfl,rfl⟩,z⟩
 ·refine⟨ax.toList,r,⟨o,n,I.og a o hk,hc,hd,by simp_all⟩,?_⟩
  have e:=r.length;simp only[pq]at e
  lia
def Inv.NY(I:Inv X ah σ H s)(h:iC X.K H a xs):∃ax:List Value,Vals xs ax/\n8 s.heap a ax.toArray/\xs.length<=sizeLine:=by
 rcases h with h | ⟨o,ax,n,hk,hc,⟨hs,hd⟩,hz,r⟩
 ·obtain⟨z,ax,r,p⟩:=h.ok I.hok;exact⟨ax,r,p,z⟩
 ·refine⟨ax.toList,r,⟨o,I.og a o hk,hc,⟨n,by simp_all⟩,hd⟩,?_⟩
  have e:=r.length;simp only[pq]at e
  lia
def Inv.tuple(I:Inv X ah σ H s)(h:iC X.K H a xs):∃ax:List Value,Vals xs ax/\IsTup s.heap a ax.toArray/\xs.length<=sizeLine:=by
 obtain⟨ax,r,p,z⟩:=I.NY h;exact⟨ax,r,p.is,z⟩
def Inv.lP(I:Inv X ah σ H s)(h:u6 X.K H a xs)(h':u6 X.K H a ys):xs=ys:=by
 obtain⟨ax,r,⟨o,n,e,_,_,d⟩,_⟩:=I.list h;obtain⟨its',r',⟨o',n',e',_,_,d'⟩,_⟩:=I.list h';rw[e]at e';cases e';rw[d]at d';injection d' with d1 _
 have:ax=its':=by grind
 subst this;exact r.inj r'
def Inv.jR(I:Inv X ah σ H s)(h:iC X.K H a xs)(h':iC X.K H a ys):xs=ys:=by
 obtain⟨ax,r,⟨o,e,_,n,d⟩,_⟩:=I.tuple h;obtain⟨its',r',⟨o',e',_,n',d'⟩,_⟩:=I.tuple h';rw[e]at e';cases e';rw[d]at d';injection d' with d1 _
 have:ax=its':=by grind
 subst this;exact r.inj r'
end
noncomputable abbrev Cx.se(X:Cx)(E:Value->Shared->Prop):Cx:={X with xe:=E}
abbrev Cx.RJ(X:Cx):Cx:=X.se λ_ _=>False
def Cx.Ok.se{X:Cx}(ok:X.Ok)(E:Value->Shared->Prop):(X.se E).Ok :=
 ⟨ok.mod,ok.kind,ok.glob,ok.blt,ok.above,ok.inj,ok.has,ok.cab,ok.hd,ok.frames,ok.stk,ok.exf,ok.bs,ok.bsz,ok.noex,ok.exfs,ok.funs,ok.frf,ok.tabs⟩
def Cx.Ok.jv{X:Cx}{E:Value->Shared->Prop}(ok:(X.se E).Ok):X.Ok :=
 ⟨ok.mod,ok.kind,ok.glob,ok.blt,ok.above,ok.inj,ok.has,ok.cab,ok.hd,ok.frames,ok.stk,ok.exf,ok.bs,ok.bsz,ok.noex,ok.exfs,ok.funs,ok.frf,ok.tabs⟩
section
variable {X:Cx} {ah:List (Addr×Obj)} {σ:St} {H:Hp} {s:Shared} {E:Value->Shared->Prop}
def Inv.se(I:Inv X ah σ H s)(E:Value->Shared->Prop):Inv (X.se E) ah σ H s:=⟨I.ok.se E,I.os,I.bare,I.base,I.loc,I.cell,I.free,I.freeC,I.pin,I.hok,I.len⟩
def Inv.jv(I:Inv (X.se E) ah σ H s):Inv X ah σ H s:=⟨I.ok.jv,I.os,I.bare,I.base,I.loc,I.cell,I.free,I.freeC,I.pin,I.hok,I.len⟩
def SP.jv(h:SP (X.se E) ah D f s'):SP X ah D f s':=by
 cases f with
 | next=>obtain⟨bG,H',I,q⟩:=h;exact⟨bG,H',I.jv,q⟩
 | brk=>obtain⟨bG,H',I,q⟩:=h;exact⟨bG,H',I.jv,q⟩
 | cont=>obtain⟨bG,H',I,q⟩:=h;exact⟨bG,H',I.jv,q⟩
 | ret u=>obtain⟨v,bG,H',I,r,q⟩:=h;exact⟨v,bG,H',I.jv,r,q⟩
end
section
variable {X:Cx} {st:Stmt} {rest:List Stmt} {t u:TS} {e:Expr} {te:TE} {pos:Pos}
def Mm:TS:=λD σ H=>D.nx σ H
def XH(t u:TS):TS:=λD σ H=>t {D with nx:=u D} σ H
def Jj:PSs X [] Mm:=λ_ _ σ H _ I h=>pH ⟨σ,H,I,h⟩
def E7(h1:PS X st t)(h2:PSs X rest u):PSs X (st::rest) (XH t u):=by
 intro ah s σ H D I h;refine wpAny_execs_cons (thn (h1 ah s σ H {D with nx:=u D} I h) λf s1 q=>?_)
 cases f with
 | next =>
  obtain⟨bG,H',I',q⟩:=q;exact h2 ah s1 bG H' D I' q
 | ret v=>exact q
 | brk=>exact q
 | cont=>exact q
def Jk(h1:PS X st t):PSs X [st] t:=by
 intro ah s σ H D I h;refine wpAny_execs_cons (thn (h1 ah s σ H D I h) λf s1 q=>?_)
 cases f with
 | next=>exact pH q
 | ret v=>exact q
 | brk=>exact q
 | cont=>exact q
def NZ:TS:=λD σ H=>D.bk σ H
def SG:TS:=λD σ H=>D.ct σ H
def Jl:PS X (.Pass pos) Mm:=λ_ _ σ H _ I h=>wpAny_Pass ⟨σ,H,I,h⟩
def E8:PS X (.Break pos) NZ:=λ_ _ σ H _ I h=>wpAny_Break ⟨σ,H,I,h⟩
def xc:PS X (.Continue pos) SG:=λ_ _ σ H _ I h=>wpAny_Continue ⟨σ,H,I,h⟩
def Inv.quiet{ah:List (Addr×Obj)}{σ:St}{H:Hp}{s:Shared}(I:Inv X ah σ H s):interactive X.env=false:=by simp[interactive,I.ok.kind]
def SH(te:TE):TS:=λD σ H=>te σ H λ_ H1=>D.nx σ H1
def Jm(he:PE X e te)(hs:swapsWith e none pos.line X.env=pure false:=by rfl):PS X (.Expr e pos) (SH te):=by
 intro ah s σ H D I h;exact wpAny_Expr_any (thn (he ah s σ H _ I h) (by rintro v s1 ⟨x,H1,I1,r1,q1⟩;exact⟨σ,H1,I1,q1⟩)) I.quiet hs
def XI(te:TE):TS:=λD σ H=>te σ H D.rt
def N0(he:PE X e te):PS X (.Return (some e) pos) (XI te):=by
 intro ah s σ H D I h;exact wpAny_Return_some (thn (he ah s σ H _ I h) (by rintro v s1 ⟨x,H1,I1,r1,q1⟩;exact⟨x,σ,H1,I1,r1,q1⟩))
def SJ:TS:=λD _ H=>D.rt .aL H
def Jn:PS X (.Return none pos) SJ:=λ_ _ σ H _ I h=>wpAny_Return_none ⟨.aL,σ,H,I,rfl,h⟩
def XJ(c:TT)(t u:TS):TS:=λD σ H=>c σ H λb H1=>if b=true then t D σ H1 else u D σ H1
def SK(hc:PT X c tc)(ha:PSs X a t)(hb:PSs X b u):PS X (.If c a b pos) (XJ tc t u):=by
 intro ah s σ H D I h;refine wpAny_If (thn (hc ah s σ H _ I h) λd s1 ⟨H1,I1,q1⟩=>?_)
 cases d with
 | true=>exact ha ah s1 σ H1 D I1 q1
 | false=>exact hb ah s1 σ H1 D I1 q1
end
abbrev TG:=V->St->Hp->(St->Hp->Prop)->Prop
abbrev Mn:=List V->St->Hp->(St->Hp->Prop)->Prop
def PG(X:Cx)(target:Expr)(t:TG):Prop :=
 ∀(ah:List (Addr×Obj)) (s:Shared) (σ:St) (H:Hp) (v:V) (u:Value) (Q:St->Hp->Prop),Inv X ah σ H s->RelV v u->t v σ H Q ->
  wpAny (model X.prog X.w) X.A (assign target X.env u) (λ_ s'=>∃bG H',Inv X ah bG H' s'/\Q bG H') X.xe s
def PGs(X:Cx)(ts:List Expr)(t:Mn):Prop :=
 ∀(ah:List (Addr×Obj)) (s:Shared) (σ:St) (H:Hp) (vs:List V) (us:List Value) (Q:St->Hp->Prop),Inv X ah σ H s->Vals vs us->t vs σ H Q ->
  wpAny (model X.prog X.w) X.A (assignInOrder ((assignEach ts X.env).map (·.2)) us) (λ_ s'=>∃bG H',Inv X ah bG H' s'/\Q bG H') X.xe s
abbrev E9:=V->V->V->Hp->(Hp->Prop)->Prop
def Fb(X:Cx)(t:E9):Prop :=
 ∀(ah:List (Addr×Obj)) (s:Shared) (σ:St) (H:Hp) (o i v:V) (ov iv u:Value) (Q:Hp->Prop),Inv X ah σ H s->RelV o ov->RelV i iv->RelV v u->t o i v H Q ->
  wpAny (model X.prog X.w) X.A (setItem ov iv u) (λ_ s'=>∃H',Inv X ah σ H' s'/\Q H') X.xe s
abbrev TIp:=V->V->Hp->VK->Prop
def PIp(X:Cx)(op:Operator)(t:TIp):Prop :=
 ∀(ah:List (Addr×Obj)) (s:Shared) (σ:St) (H:Hp) (x y:V) (v u:Value) (Q:VK),Inv X ah σ H s->RelV x v->RelV y u->t x y H Q ->
  wpAny (model X.prog X.w) X.A (inplaceOp op v u) (EP X ah σ Q) X.xe s
section
variable {X:Cx} {pos:Pos}
def gName(i:Nat):TG:=λv σ H Q=>Q (σ.set i (some v)) H
def Jo(hN:X.N.Nodup)(hi:X.N[i]?=some x)(hx:Mi X.env.scope x)(hf:X.fn x=true\/X.env.scope.names.lookup x=some .local):PG X (.Name x pos) (gName i):=by
 intro ah s σ H v u Q I r h;exact wpAny_assign_Name (qe I hN hi hx r (λs' I'=>⟨_,H,I',h⟩) hf)
def XM:Mn:=λvs σ H Q=>vs=[]/\Q σ H
def SM(t:TG)(u:Mn):Mn:=λvs σ H Q=>∃v r,vs=v::r/\t v σ H λbG H'=>u r bG H' Q
def Jp:PGs X [] XM:=by
 intro ah s σ H vs us Q I r h;obtain⟨e,h⟩:=h;subst e;cases r;exact assignInOrder_nil ⟨σ,H,I,h⟩
def Fc(h1:PG X e t)(h2:PGs X es u)
  (hs:(assignEach (e::es) X.env).map (·.2)=assign e X.env::(assignEach es X.env).map (·.2):=by rfl):PGs X (e::es) (SM t u):=by
 intro ah s σ H vs us Q I r h;obtain⟨v,vr,e1,h⟩:=h;subst e1;cases r with
 | cons r rr =>
  rw[hs];refine assignInOrder_cons (thn (h1 ah s σ H _ _ _ I r h) λ_ s1 ⟨iE,H1,I1,q1⟩=>?_)
  exact h2 ah s1 iE H1 _ _ Q I1 rr q1
def XN(K:W.Frag)(n:Nat)(t:Mn):TG:=λv σ H Q=>∃a xs,v=.ref a/\iC K H a xs/\xs.length=n/\t xs σ H Q
def N1{es:List Expr}{k:Nat}{t:Mn}{n:Nat}(hc:X.calm=true)(h:PGs X es t)
  (hn:(assignEach es X.env).length=n:=by rfl) (rS:(assignEach es X.env).findIdx? (·.1)=none:=by rfl):PG X (.Tuple es k pos) (XN X.K n t):=by
 intro ah s σ H v u Q I r hw;obtain⟨a,xs,e1,hq,hl,hw⟩:=hw;subst e1;cases r;obtain⟨ax,rv,ht,hz⟩:=I.tuple hq;refine assign_Tuple_tuple (I.ok.hd hc) ht (by simp[hn,<-hl,rv.length]) rS λh' hx=>?_
 have I1:=I.kept (t':=s.toks) λb o e=>hx b o (bC (aH e)) e
 exact h ah _ σ H xs _ Q I1 (by grind) hw
def XO(to ti:TE)(t:E9):TG:=λv σ H Q=>to σ H λo H1=>ti σ H1 λi H2=>t o i v H2 λH3=>Q σ H3
def N2(ho:PE X o to)(hi:PE X i ti)(hs:Fb X t)
  (ha:∀v,assign (.Subscript o i pos) X.env v=(do
   let ov <-holding [v] (eval o X.env)
   let iv <-holding [v,ov] (eval i X.env)
   standAt pos
   holding [v,ov,iv] (setItem ov iv v)
   release [v,ov,iv] []):=by intro _;rfl):PG X (.Subscript o i pos) (XO to ti t):=by
 intro ah s σ H v u Q I r h;rw[ha];refine ai (dU (thn (ho ah s σ H _ I h) λov s1 ⟨x,H1,I1,r1,q1⟩=>?_))
 refine ai (dU (thn (hi ah s1 σ H1 _ I1 q1) λiv s2 ⟨y,H2,I2,r2,q2⟩=>?_))
 refine ai (uQ (ai (dU (thn (hs ah s2 σ H2 x y v ov iv u _ I2 r1 r2 r q2) λ_ s3 ⟨H3,I3,q3⟩=>?_))))
 exact wpAny_release ⟨σ,H3,I3,q3⟩
def Jq(te:TE)(g:TG):TS:=λD σ H=>te σ H λx H1=>g x σ H1 D.nx
def Fd(he:PE X e te)(hg:PG X tg g)(hs:swapsWithSole [tg] e pos.line X.env=pure false:=by rfl)(hw:swappedStores [tg] e X.env=pure none:=by rfl)
  (h1:(assignEach [tg] X.env).map (·.2)=[assign tg X.env]:=by rfl):PS X (.Assign [tg] e pos) (Jq te g):=by
 intro ah s σ H D I h;refine wpAny_Assign_stores (thn (he ah s σ H _ I h) λv s1 ⟨x,H1,I1,r1,q1⟩=>?_) hs hw
 rw[h1];exact thn (hg ah s1 σ H1 x v _ I1 r1 q1) λ_ s2 q=>q
def N3(hN:X.N.Nodup)(hi:X.N[i]?=some x)(hx:Mi X.env.scope x)(he:PE X e te)(hs:swapsWith e (some (.Name x oh)) pos.line X.env=pure false:=by rfl)(hf:X.fn x=true\/X.env.scope.names.lookup x=some .local) :
  PS X (.Assign [.Name x oh] e pos) (Jq te (gName i)):=by
 intro ah s σ H D I h;refine wpAny_Assign_Name (thn (he ah s σ H _ I h) λv s1 ⟨y,H1,I1,r1,q1⟩=>?_) hs
 exact qe I1 hN hi hx r1 (λs2 I2=>⟨_,H1,I2,q1⟩) hf
def XQ(i:Nat)(te:TE)(ti:TIp):TS:=λD σ H=>∃x,σ[i]?=some (some x)/\te σ H λy H1=>ti x y H1 λz H2=>D.nx (σ.set i (some z)) H2
def N4(hN:X.N.Nodup)(hi:X.N[i]?=some x)(hx:Mi X.env.scope x)(he:PE X e te)(ho:PIp X op ti)(hf:X.fn x=true\/X.env.scope.names.lookup x=some .local) :
  PS X (.AugAssign (.Name x oh) op e pos) (XQ i te ti):=by
 intro ah s σ H D I h;obtain⟨v,e1,h⟩:=h;obtain⟨m,hn,hl⟩:=I.loc;have RK:RH X.env.scope x:=by rcases hx with k | k;exact .inl k;exact .inr (.inl k)
 obtain⟨u,r,l⟩:=hl i x v hi e1 RK;refine wpAny_AugAssign_Name ?_;have go:wpAny (model X.prog X.w) X.A (eval e X.env) (λw N6=>wpAny (model X.prog X.w) X.A (inplaceOp op u w) (λr XR=>wpAny (model X.prog X.w) X.A (storeName X.env x r) (λ_=>SP X ah D .next) X.xe XR) X.xe N6) X.xe s:=by
  refine thn (he ah s σ H _ I h) λw s1 ⟨y,H1,I1,r1,q1⟩=>?_
  refine thn (ho ah s1 σ H1 v y u w _ I1 r r1 q1) λz s2 ⟨zv,H2,I2,r2,q2⟩=>?_
  exact qe I2 hN hi hx r2 (λs3 I3=>⟨_,H2,I3,q2⟩) hf
 rcases l with⟨hk,hm⟩ | ⟨hk,c,hc,sR⟩
 ·exact wpAny_loadName_local I.ok.kind hk hn hm go
 ·rcases hk with hk | hk
  ·exact wpAny_loadName_cell I.ok.kind hk hc sR go
  ·rcases hx with k | k
   ·have:X.env.scope.names.lookup x=some .free:=hk;rw[k]at this;cases this
   ·have:X.env.scope.names.lookup x=some .free:=hk;rw[k]at this;cases this
end
section
variable {X:Cx} {pos:Pos}
def N7(c:TT)(tb:TS):TS:=λD σ H=>∃W:Nat->St->Hp->Prop,(∃m,W m σ H)/\∀m σ H,W m σ H ->
 c σ H λb H1=>if b=true then ∃N:St->Hp->Prop,(∀bG H',N bG H'->∃m',m'<m/\W m' bG H')/\tb {D with nx:=N,ct:=N,bk:=D.nx} σ H1 else D.nx σ H1
def Fe(hp:PassesOwn (model X.prog X.w) X.A X.env X.xe)(hc:PT X c tc)(hb:PSs X body tb):PS X (.While c body [] pos) (N7 tc tb):=by
 intro ah s σ H D I h;obtain⟨W,⟨m0,w0⟩,qf⟩:=h;refine wpAny_While (codeAny_whileLoop (λn s'=>∃bG H',Inv X ah bG H' s'/\W n bG H') ?_ m0 ⟨σ,H,I,w0⟩)
 rintro n s1 ⟨iE,H1,I1,w1⟩
 refine kQ hp (thn (hc ah s1 iE H1 _ I1 (qf n iE H1 w1)) λb s2 ⟨H2,I2,q2⟩=>?_)
 cases b with
 | true =>
  obtain⟨N,hN,q2⟩:=q2;rw[if_pos rfl];refine kQ hp (thn (hb ah s2 iE H2 _ I2 q2) λf s3 q3=>?_)
  cases f with
  | next =>
   obtain⟨oi,H3,I3,n3⟩:=q3;obtain⟨m',hm,w3⟩:=hN oi H3 n3;exact⟨m',hm,oi,H3,I3,w3⟩
  | cont =>
   obtain⟨oi,H3,I3,n3⟩:=q3;obtain⟨m',hm,w3⟩:=hN oi H3 n3;exact⟨m',hm,oi,H3,I3,w3⟩
  | brk=>exact q3
  | ret v=>exact q3
 | false =>
  rw[if_neg cf];exact pH ⟨iE,H2,I2,q2⟩
end
structure It where
 go:Nat->Hp->Prop
 yld:Nat->Hp->V->Hp->Prop
 stop:Nat->Hp->Prop
def qg(X:Cx)(ah:List (Addr×Obj))(H:Hp)(b:Addr):Prop :=
 H b=none/\b≠X.env.locals/\b∉X.fs/\(b∈X.ex\/X.s₀.heap.objs.size<=b)/\(∀x c,X.env.cells.lookup x=some c->c≠b)/\∀p∈X.pn++ah,p.1≠b
def Inv.u7{X:Cx}{ah:List (Addr×Obj)}{σ:St}{H H':Hp}{s:Shared}{b:Addr}(I:Inv X ah σ H s)(hb:s.heap.objs.size<=b)(hn:H' b=none):qg X ah H' b:=by
 refine⟨hn,pS (cj I.lt hb),I.XB hb,.inr (aY I.sz hb),λx c e z=>?_,λp hp z=>?_⟩
 ·obtain⟨v,q⟩:=I.cell x c e;exact absurd (cj q.lt (by grind)) (fH _)
 ·exact absurd (cj (aH (I.pin p hp).1) (by grind)) (fH _)
structure Turn (P:Program) (w:World) (K:W.Frag) (tg:Expr) (J:It) (fp:List Addr) (it:Addr) (tn:Nat->Heap->Prop):Prop where
 mem:it∈fp
 obj:∀i h,tn i h->∀b∈fp,∃o,h.get? b=some o/\∀v,o.data≠.cell v
 keep:∀i h h',tn i h->(∀b∈fp,∀o,h.get? b=some o->h'.get? b=some o)->tn i h'
 item:∀(X:Cx),X.prog=P->X.w=w->X.K=K->X.calm=true->∀(i:Nat) (ah:List (Addr×Obj)) (s:Shared) (σ:St) (H:Hp) (E:Value->Shared->Prop),Inv X ah σ H s->(∀b∈fp,qg X ah H b)->tn i s.heap->J.go i H ->
  wpAny (model P w) X.A (pyNext (.ref it)) (λr s1=>∃u,r=some u /\
   wpAny (model P w) X.A (letOwnedTupleGo tg (.ref it) u) (λ_ s2=>∃x H',Inv X ah σ H' s2/\RelV x u/\J.yld i H x H'/\tn (i+1) s2.heap/\∀b∈fp,H' b=none) E s1) E s
 done:∀(X:Cx),X.prog=P->X.w=w->X.K=K->X.calm=true->∀(i:Nat) (ah:List (Addr×Obj)) (s:Shared) (σ:St) (H:Hp) (E:Value->Shared->Prop),Inv X ah σ H s->(∀b∈fp,qg X ah H b)->tn i s.heap->J.stop i H ->
  wpAny (model P w) X.A (pyNext (.ref it)) (λr s1=>r=none/\Inv X ah σ H s1) E s
 self:∀(A:Around) (i:Nat) (s:Shared) (Q:Value->Shared->Prop) (E:Value->Shared->Prop),tn i s.heap->Q (.ref it) s->wpAny (model P w) A (pyIter (.ref it)) Q E s
abbrev TI:=St->Hp->(It->Hp->Prop)->Prop
def PIE(X:Cx)(ah:List (Addr×Obj))(σ:St)(tg:Expr)(R:It->Hp->Prop)(XS:Value)(s2:Shared):Prop :=
 ∃(it:Addr) (fp:List Addr) (tn:Nat->Heap->Prop) (J:It) (H':Hp),XS=.ref it/\Inv X ah σ H' s2/\Turn X.prog X.w X.K tg J fp it tn/\tn 0 s2.heap/\(∀b∈fp,qg X ah H' b)/\R J H'
def PI(X:Cx)(tg iter:Expr)(wi:TI):Prop :=
 ∀(ah:List (Addr×Obj)) (s:Shared) (σ:St) (H:Hp) (R:It->Hp->Prop),Inv X ah σ H s->wi σ H R ->
  wpAny (model X.prog X.w) X.A (eval iter X.env) (λv s1=>wpAny (model X.prog X.w) X.A (pyIter v) (PIE X ah σ tg R) X.xe s1) X.xe s
def Bm(ho:s.heap.get? it=some o)(hc:o.cls=.type n)(hd:o.data=.fields vs)
  (hn:["enumerate","zip","dict_itemiterator","dict_reverseitemiterator","odict_iterator","itertools.zip_longest","itertools.pairwise"].contains n=false) (hQ:Q () s):wpAny M A (letOwnedTupleGo tg (.ref it) u) Q E s:=by
 unfold letOwnedTupleGo;cases tg<;>first
  | exact ar hQ
  | (cases u<;>first
    | exact ar hQ
    | (refine ai (wpAny_load ho ?_)
       rw[hc,hd];show wpAny M A (if(["enumerate","zip","dict_itemiterator","dict_reverseitemiterator","odict_iterator","itertools.zip_longest","itertools.pairwise"].contains n&&vs[0]?==some (rawInt _))=true then _ else _) Q E s
       rw[if_neg (by grind)]
       exact ar hQ))
noncomputable def Wz(K:W.Frag)(a:Addr):It :=
 ⟨λi H=>∃xs x,u6 K H a xs/\xs[i]?=some x,λi H x H'=>H'=H/\∀xs,u6 K H a xs->xs[i]?=some x,λi H=>∃xs,u6 K H a xs/\xs.length<=i⟩
noncomputable def XT(K:W.Frag)(a:Addr):It :=
 ⟨λi H=>∃xs x,iC K H a xs/\xs[i]?=some x,λi H x H'=>H'=H/\∀xs,iC K H a xs->xs[i]?=some x,λi H=>∃xs,iC K H a xs/\xs.length<=i⟩
noncomputable def WA(lo:Int)(n:Nat):It:=⟨λi _=>i<n,λi H x H'=>H'=H/\x=.int (lo+i),λi _=>n<=i⟩
def C4{P:Program}{w:World}{K:W.Frag}{tg:Expr}(a it:Addr):Turn P w K tg (Wz K a) [it] it (λi h=>h.IsListIter it a i) where
 mem:=by simp
 obj:=λi h st b hb=>by
  have e:b=it:=by grind
  subst e;obtain⟨o,e,c,d⟩:=st;exact⟨o,e,λv z=>by grind⟩
 keep:=λi h h' st k=>st.at λo e=>k it (by simp) o e
 item:=by
  intro X hP hw hK hc i ah s σ H E I hf st hg;subst hP hw hK;obtain⟨xs,x,hq,hx⟩:=hg;obtain⟨ax,rv,p,hz⟩:=I.list hq;obtain⟨u,hu,ru⟩:=rv.get hx;obtain⟨f0,f1,f2,f3,f4,f5⟩:=hf it (by simp)
  refine wpAny_pyNext_list_item st p.isList (by simpa using hu) λh' st' sb=>?_
  have I1:=I.turned (t':=s.toks) (λb o hb e=>(sb.2 b hb).trans e) f0 f1 f3 f4 f5
  obtain⟨o,e,c,d⟩:=id st';exact⟨u,rfl,Bm e c d (by decide) ⟨x,H,I1,ru,⟨rfl,λys hy=>by rw[I.lP hy hq];exact hx⟩,st',λb hb=>(hf b hb).1⟩⟩
 done:=by
  intro X hP hw hK hc i ah s σ H E I hf st hg;subst hP hw hK;obtain⟨xs,hq,hx⟩:=hg;obtain⟨ax,rv,p,hz⟩:=I.list hq;obtain⟨f0,f1,f2,f3,f4,f5⟩:=hf it (by simp)
  have hl:=rv.length;exact wpAny_pyNext_list_end (I.ok.hd hc) st p.isList (by simp;lia) λh' eb=>⟨rfl,I.turned (λb o hb e=>eb b o hb e) f0 f1 f3 f4 f5⟩
 self:=λ_ _ _ _ _ st h=>wpAny_pyIter_listiter st h
def zP{P:Program}{w:World}{K:W.Frag}{tg:Expr}(a it:Addr):Turn P w K tg (XT K a) [it] it (λi h=>h.IsTupleIter it a i) where
 mem:=by simp
 obj:=λi h st b hb=>by
  have e:b=it:=by grind
  subst e;obtain⟨o,e,c,d⟩:=st;exact⟨o,e,λv z=>by grind⟩
 keep:=λi h h' st k=>st.at λo e=>k it (by simp) o e
 item:=by
  intro X hP hw hK hc i ah s σ H E I hf st hg;subst hP hw hK;obtain⟨xs,x,hq,hx⟩:=hg;obtain⟨ax,rv,p,hz⟩:=I.tuple hq;obtain⟨u,hu,ru⟩:=rv.get hx;obtain⟨f0,f1,f2,f3,f4,f5⟩:=hf it (by simp)
  refine wpAny_pyNext_tuple_item st (p) (by simpa using hu) λh' st' sb=>?_
  have I1:=I.turned (t':=s.toks) (λb o hb e=>(sb.2 b hb).trans e) f0 f1 f3 f4 f5
  obtain⟨o,e,c,d⟩:=id st';exact⟨u,rfl,Bm e c d (by decide) ⟨x,H,I1,ru,⟨rfl,λys hy=>by rw[I.jR hy hq];exact hx⟩,st',λb hb=>(hf b hb).1⟩⟩
 done:=by
  intro X hP hw hK hc i ah s σ H E I hf st hg;subst hP hw hK;obtain⟨xs,hq,hx⟩:=hg;obtain⟨ax,rv,p,hz⟩:=I.tuple hq;obtain⟨f0,f1,f2,f3,f4,f5⟩:=hf it (by simp)
  have hl:=rv.length;exact wpAny_pyNext_tuple_end (I.ok.hd hc) st (p) (by simp;lia) λh' eb=>⟨rfl,I.turned (λb o hb e=>eb b o hb e) f0 f1 f3 f4 f5⟩
 self:=λ_ _ _ _ _ st h=>wpAny_pyIter_tupleiter st h
def zQ{P:Program}{w:World}{K:W.Frag}{tg:Expr}(it:Addr)(lo:Int)(n:Nat):Turn P w K tg (WA lo n) [it] it (λi h=>IsRangeIter h it (lo+(i:Nat)*1) ((n:Int)-(i:Nat)) 1) where
 mem:=by simp
 obj:=λi h st b hb=>by
  grind
 keep:=λi h h' st k=>k it (by simp) _ st
 item:=by
  intro X hP hw hK hc i ah s σ H E I hf st hg;subst hP hw hK;obtain⟨f0,f1,f2,f3,f4,f5⟩:=hf it (by simp)
  have W:=Walks.range (prog:=X.prog) (w:=X.w) (I.ok.hd hc) it lo 1 n;refine W.item i s _ _ hg st λv h' tk hv st' kk=>?_
  obtain⟨t,rfl⟩:=hv;have I1:Inv X ah σ H {s with heap:=h',toks:=tk}:=I.turned (λb o hb e=>kk b o (by grind) e) f0 f1 f3 f4 f5
  refine⟨_,rfl,Bm st' rfl rfl (by decide) ⟨.int (lo+i),H,I1,⟨t,?_⟩,⟨rfl,rfl⟩,st',λb hb=>(hf b hb).1⟩⟩
  rw[Int.mul_one]
 done:=by
  intro X hP hw hK hc i ah s σ H E I hf st hg;subst hP hw hK;obtain⟨f0,f1,f2,f3,f4,f5⟩:=hf it (by simp)
  exact wpAny_pyNext_range_end (I.ok.hd hc) st (by have:n<=i:=hg;lia) λh' eb=>⟨rfl,I.turned (λb o hb e=>eb b o hb e) f0 f1 f3 f4 f5⟩
 self:=λ_ _ _ _ _ st h=>wpAny_pyIter_rangeiter st h
section
variable {X:Cx} {tg:Expr}
def SN(K:W.Frag)(tl:TE):TI:=λσ H R=>tl σ H λx H1=>∃a,x=.ref a/\(∃xs,u6 K H1 a xs)/\R (Wz K a) H1
def XU(K:W.Frag)(tl:TE):TI:=λσ H R=>tl σ H λx H1=>∃a,x=.ref a/\(∃xs,iC K H1 a xs)/\R (XT K a) H1
def Bn{l:Expr}{tl:TE}(hl:PE X l tl):PI X tg l (SN X.K tl):=by
 intro ah s σ H R I h;refine thn (hl ah s σ H _ I h) λv s1 ⟨x,H1,I1,r1,q1⟩=>?_
 obtain⟨a,e,⟨xs,hq⟩,q⟩:=q1;subst e;cases r1;obtain⟨ax,rv,p,hz⟩:=I1.list hq;refine zi p.isList ?_;refine⟨s1.heap.objs.size,[s1.heap.objs.size],_,_,H1,rfl,I1.kept λb o e=>aK _ e,C4 a _,⟨_,bL _ rfl,rfl,rfl⟩,λb hb=>?_,q⟩
 have e:b=s1.heap.objs.size:=by grind
 subst e;exact I1.u7 (aF _) (I1.hok.fresh (aF _))
def Ff{l:Expr}{tl:TE}(hl:PE X l tl):PI X tg l (XU X.K tl):=by
 intro ah s σ H R I h;refine thn (hl ah s σ H _ I h) λv s1 ⟨x,H1,I1,r1,q1⟩=>?_
 obtain⟨a,e,⟨xs,hq⟩,q⟩:=q1;subst e;cases r1;obtain⟨ax,rv,p,hz⟩:=I1.tuple hq;refine wpAny_pyIter_tuple (p) ?_;refine⟨s1.heap.objs.size,[s1.heap.objs.size],_,_,H1,rfl,I1.kept λb o e=>aK _ e,zP a _,⟨_,bL _ rfl,rfl,rfl⟩,λb hb=>?_,q⟩
 have e:b=s1.heap.objs.size:=by grind
 subst e;exact I1.u7 (aF _) (I1.hok.fresh (aF _))
def Fg{ah:List (Addr×Obj)}{σ:St}{H:Hp}{s:Shared}{R:It->Hp->Prop}{E:Value->Shared->Prop}{lo hi:Int}{t u v:Tok}{tk:Nat}(I:Inv X ah σ H s)(h1:-(2^62)<=lo)(h2:lo<2^62)(h3:-(2^62)<=hi)(h4:hi<2^62)
  (q:R (WA lo (hi-lo).toNat) H):wpAny (model X.prog X.w) X.A (pyIter (.ref s.heap.objs.size)) (PIE X ah σ tg R) E {s with heap:=s.heap.push {cls:=.type "range",data:=.fields #[.int lo t,.int hi u,.int 1 v]},toks:=tk}:=by
 refine wpAny_pyIter_range (IsRange.new ..) (small_one h1 h2 h3 h4) ?_;have I1:Inv X ah σ H {s with heap:=s.heap.push {cls:=.type "range",data:=.fields #[.int lo t,.int hi u,.int 1 v]},toks:=tk}:=I.kept λb o e=>aK _ e
 refine⟨(s.heap.push {cls:=.type "range",data:=.fields #[.int lo t,.int hi u,.int 1 v]}).objs.size,[(s.heap.push {cls:=.type "range",data:=.fields #[.int lo t,.int hi u,.int 1 v]}).objs.size],_,_,H,rfl,
  I1.kept λb o e=>aK _ e,zQ _ lo (hi-lo).toNat,?_,λb hb=>?_,q⟩
 ·have e1:lo+(0:Nat)*1=lo:=by simp
  have e2:(((hi-lo).toNat:Nat):Int)-(0:Nat)=Builtin.Range.rangeSize lo hi 1:=by rw[rangeSize_one];split<;>lia
  rw[e1,e2];exact bL _ rfl
 ·have e:b=(s.heap.push {cls:=.type "range",data:=.fields #[.int lo t,.int hi u,.int 1 v]}).objs.size:=by grind
  subst e;exact I1.u7 (aF _) (I1.hok.fresh (aF _))
def SO(ta:TA):TI:=λσ H R=>ta σ H λvs H1=>∃j:Int,vs=[.int j] /\ -(2^62)<=j/\j<2^62/\R (WA 0 j.toNat) H1
def C5{a:Expr}{ta:TA}{p pos:Pos}(hg:Gl X "range")(hm:X.mg "range"=none)(ha:PA X [a] ta)(hs:starEach [a] X.env=[(false,eval a X.env)]:=by rfl):PI X tg (.Call (.Name "range" p) [a] [] pos) (SO ta):=by
 intro ah s σ H R I h;refine Call_ (ld_blt I hg hm boot_range (kx (thn (ha pos ah s σ H _ I h) λus s1 ⟨vs,H1,I1,r1,q1⟩=>?_) hs rfl))
 obtain⟨j,e,q1,q2,q⟩:=q1;subst e;cases r1 with
 | cons r rr =>
  cases rr;obtain⟨t,rfl⟩:=r;exact call_range_1 (Fg I1 (by lia) (by lia) q1 q2 (by grind))
def XW(wi:TI)(g:TG)(tb:TS):TS:=λD σ H=>wi σ H λJ H1=>∃W:Nat->Nat->St->Hp->Prop,(∃m,W 0 m σ H1)/\∀i m σ H,W i m σ H ->
 (J.stop i H/\D.nx σ H)\/(J.go i H/\∃N:St->Hp->Prop,(∀bG H',N bG H'->∃m',m'<m/\W (i+1) m' bG H')/\∀x H',J.yld i H x H'->g x σ H' λBo H2=>tb {D with nx:=N,ct:=N,bk:=D.nx} Bo H2)
noncomputable def qh(fp:List Addr)(h:Heap):List (Addr×Obj):=fp.filterMap λb=>(h.get? b).map λo=>(b,o)
def iF(hb:b∈fp)(e:h.get? b=some o):(b,o)∈qh fp h:=pB.mpr ⟨b,hb,by rw[e];rfl⟩
def C6(hp:p∈qh fp h):p.1∈fp/\h.get? p.1=some p.2:=by
 obtain⟨b,hb,e⟩:=pB.mp hp;cases q:h.get? b with
 | none=>rw[q]at e;cases e
 | some o =>
  rw[q]at e;have e':=aX e;subst e';exact⟨hb,q⟩
def Inv.pinned{ah:List (Addr×Obj)}{σ:St}{H:Hp}{s:Shared}{fp:List Addr}(I:Inv X ah σ H s)(hf:∀b∈fp,qg X ah H b)(ho:∀b∈fp,∃o,s.heap.get? b=some o/\∀v,o.data≠.cell v):Inv X (ah++qh fp s.heap) σ H s :=
 I.lO λp hp=>(cR.mp hp).elim (λz=>I.pin p (fA _ z)) λz=>by
  obtain⟨hb,e⟩:=C6 z;obtain⟨f0,f1,f2,_⟩:=hf p.1 hb;obtain⟨o,e',d⟩:=ho p.1 hb;rw[e]at e';cases e';exact⟨e,f0,f1,f2,d⟩
def Inv.qi{ah pl:List (Addr×Obj)}{σ:St}{H:Hp}{s:Shared}(I:Inv X (ah++pl) σ H s):Inv X ah σ H s:=I.lO λp hp=>I.pin p (fA _ (mT _ hp))
def N8(hp:PassesOwn (model X.prog X.w) X.A X.env X.xe)(hc:X.calm=true)(hi:PI X tg iter wi)(hg:PG X tg g)(hb:PSs X body tb)
  (hs:∀x,foldedSetIterable iter X.env x=pure x:=by intro _;rfl):PS X (.For tg iter body [] pos) (XW wi g tb):=by
 intro ah s σ H D I h;refine wpAny_For (thn (hi ah s σ H _ I h) λv s1 h1=>thn h1 λXS s2 h2=>?_) hs
 obtain⟨it,fp,tn,J,H2,e,I2,T,dG,f2,W,⟨m0,w0⟩,qf⟩:=h2;subst e;have zR:∀{H':Hp},(∀b∈fp,H' b=none)->∀b∈fp,qg X ah H' b:=λhn b hb=>⟨hn b hb,(f2 b hb).2⟩
 refine codeAny_forLoop_any (λn s'=>∃i bG H',Inv X ah bG H' s'/\tn i s'.heap/\(∀b∈fp,H' b=none)/\W i n bG H') ?_ m0 ⟨0,σ,H2,I2,dG,λb hb=>(f2 b hb).1,w0⟩
 rintro n s3 ⟨i,oi,H3,I3,wJ,fr3,w3⟩
 rcases qf i n oi H3 w3 with⟨stop,qn⟩ | ⟨go,N,hN,step⟩
 ·refine kQ hp (thn (T.done X rfl rfl rfl hc i ah s3 oi H3 X.xe I3 (zR fr3) wJ stop) λr s4 ⟨hr,I4⟩=>?_)
  subst hr;exact pH ⟨oi,H3,I4,qn⟩
 ·refine kQ hp (thn (T.item X rfl rfl rfl hc i ah s3 oi H3 X.xe I3 (zR fr3) wJ go) λr s4 ⟨u,hr,h4⟩=>?_)
  subst hr;refine kQ hp (thn h4 λ_ s5 z9=>?_)
  obtain⟨x,H5,I5,r5,y5,N9,XX⟩:=z9;have XY:=I5.pinned (zR XX) (T.obj _ _ N9);refine kQ hp (thn (hg _ s5 oi H5 x u _ XY r5 (step x H5 y5)) λ_ s6 ⟨WB,H6,I6,q6⟩=>?_)
  refine kQ hp (thn (hb _ s6 WB H6 _ I6 q6) λf s7 q7=>?_)
  have again:∀{Fh:St} {H7:Hp},Inv X (ah++qh fp s5.heap) Fh H7 s7->N Fh H7->∃m,m<n/\∃i bG H',Inv X ah bG H' s7/\tn i s7.heap/\(∀b∈fp,H' b=none)/\W i m bG H':=λ{Fh H7} I7 n7=>by
   obtain⟨m',hm,w7⟩:=hN Fh H7 n7;refine⟨m',hm,i+1,Fh,H7,I7.qi,T.keep _ _ _ N9 λb hb o e=>(I7.pin (b,o) (fA _ (fA _ (iF hb e)))).1,λb hb=>?_,w7⟩
   obtain⟨o,e,d⟩:=T.obj _ _ N9 b hb;exact(I7.pin (b,o) (fA _ (fA _ (iF hb e)))).2.1
  cases f with
  | next=>obtain⟨Fh,H7,I7,n7⟩:=q7;exact again I7 n7
  | cont=>obtain⟨Fh,H7,I7,n7⟩:=q7;exact again I7 n7
  | brk=>obtain⟨Fh,H7,I7,q7⟩:=q7;exact⟨Fh,H7,I7.qi,q7⟩
  | ret v=>obtain⟨x7,Fh,H7,I7,r7,q7⟩:=q7;exact⟨x7,Fh,H7,I7.qi,r7,q7⟩
end
abbrev R2:=V->V->Hp->VK->Prop
def OpR(X:Cx)(f:Value->Value->Sem Value)(r:R2):Prop :=
 ∀(ah:List (Addr×Obj)) (s:Shared) (σ:St) (H:Hp) (x y:V) (v u:Value) (Q:VK),Inv X ah σ H s->RelV x v->RelV y u->r x y H Q ->
  wpAny (model X.prog X.w) X.A (f v u) (EP X ah σ Q) X.xe s
def UnR(X:Cx)(f:Value->Sem Value)(r:V->Hp->VK->Prop):Prop :=
 ∀(ah:List (Addr×Obj)) (s:Shared) (σ:St) (H:Hp) (x:V) (v:Value) (Q:VK),Inv X ah σ H s->RelV x v->r x H Q ->
  wpAny (model X.prog X.w) X.A (f v) (EP X ah σ Q) X.xe s
def kl(X:Cx)(f:Value)(r:List V->Hp->VK->Prop):Prop :=
 ∀(ah:List (Addr×Obj)) (s:Shared) (σ:St) (H:Hp) (xs:List V) (us:List Value) (Q:VK),Inv X ah σ H s->Vals xs us->r xs H Q ->
  wpAny (model X.prog X.w) X.A (call f us) (EP X ah σ Q) X.xe s
def XZ(X:Cx)(r:V->Hp->(Bool->Hp->Prop)->Prop):Prop :=
 ∀(ah:List (Addr×Obj)) (s:Shared) (σ:St) (H:Hp) (x:V) (v:Value) (Q:Bool->Hp->Prop),Inv X ah σ H s->RelV x v->r x H Q ->
  wpAny (model X.prog X.w) X.A (truthy v) (TP X ah σ Q) X.xe s
def SQ(r:R2)(ta tb:TE):TE:=λσ H Q=>ta σ H λx H1=>tb σ H1 λy H2=>r x y H2 Q
def tUn(r:V->Hp->VK->Prop)(ta:TE):TE:=λσ H Q=>ta σ H λx H1=>r x H1 Q
def rI(C:Int->Int->Prop)(g:Int->Int->V):R2:=λx y H Q=>∃i j,x=.int i/\y=.int j/\C i j/\Q (g i j) H
def IB(g:Int->Int->V):R2:=λx y H Q=>∃i j,x=.int i/\y=.int j/\Q (g i j) H
def rU(g:Int->V):V->Hp->VK->Prop:=λx H Q=>∃i,x=.int i/\Q (g i) H
section
variable {X:Cx} {a b c:Expr} {ta tb tc:TE} {pos:Pos}
def Oa(ha:PE X a ta)(hb:PE X b tb){ah:List (Addr×Obj)}{s:Shared}{σ:St}{H:Hp}{R:V->V->Hp->Prop}(I:Inv X ah σ H s)
  (h:ta σ H λx H1=>tb σ H1 λy H2=>R x y H2) {Q:Value->Shared->Prop} {f:Value->Value->Sem Value}
  (hf:∀v u s2 x y H2,Inv X ah σ H2 s2->RelV x v->RelV y u->R x y H2->wpAny (model X.prog X.w) X.A (f v u) Q X.xe s2) :
  wpAny (model X.prog X.w) X.A (eval a X.env) (λv s₁=>wpAny (model X.prog X.w) X.A (eval b X.env) (λu N6=>wpAny (model X.prog X.w) X.A (f v u) Q X.xe N6) X.xe s₁) X.xe s:=by
 refine thn (ha ah s σ H _ I h) λv s1 ⟨x,H1,I1,r1,q1⟩=>?_
 refine thn (hb ah s1 σ H1 _ I1 q1) λu s2 ⟨y,H2,I2,r2,q2⟩=>?_
 exact hf v u s2 x y H2 I2 r1 r2 q2
def Mo(ho:OpR X (binaryOp op) r)(ha:PE X a ta)(hb:PE X b tb):PE X (.BinOp a op b pos) (SQ r ta tb):=by
 intro ah s σ H Q I h;exact wpAny_BinOp (Oa ha hb I h λv u s2 x y H2 I2 rx ry q=>ho ah s2 σ H2 x y v u Q I2 rx ry q)
def SR{r:V->Hp->VK->Prop}(ho:UnR X (unaryOp op) r)(ha:PE X a ta):PE X (.UnaryOp op a pos) (tUn r ta):=by
 intro ah s σ H Q I h;exact UnaryOp_ (thn (ha ah s σ H _ I h) (by rintro v s1 ⟨x,H1,I1,r1,q1⟩;exact ho ah s1 σ H1 x v Q I1 r1 q1))
def SS{f:Value->Value->Sem Value}{C:Int->Int->Prop}{g:Int->Int->Int}
  (rule:∀(i j:Int) (t u:Tok) (s:Shared) (Q:Value->Shared->Prop) (E:Value->Shared->Prop),C i j->Q (.int (g i j) s.toks) {s with toks:=s.toks+1}->wpAny (model X.prog X.w) X.A (f (.int i t) (.int j u)) Q E s) :
  OpR X f (rI C λi j=>.int (g i j)):=by
 intro ah s σ H x y v u Q I rx ry h;obtain⟨i,j,rfl,rfl,hc,q⟩:=h;obtain⟨t,rfl⟩:=rx;obtain⟨t',rfl⟩:=ry;exact rule i j t t' s _ _ hc ⟨.int (g i j),H,I.tok _,⟨_,rfl⟩,q⟩
def Ob{f:Value->Value->Sem Value}{g:Int->Int->Int}
  (rule:∀(i j:Int) (t u:Tok) (s:Shared) (Q:Value->Shared->Prop) (E:Value->Shared->Prop),Q (.int (g i j) s.toks) {s with toks:=s.toks+1}->wpAny (model X.prog X.w) X.A (f (.int i t) (.int j u)) Q E s) :
  OpR X f (IB λi j=>.int (g i j)):=by
 intro ah s σ H x y v u Q I rx ry h;obtain⟨i,j,rfl,rfl,q⟩:=h;obtain⟨t,rfl⟩:=rx;obtain⟨t',rfl⟩:=ry;exact rule i j t t' s _ _ ⟨.int (g i j),H,I.tok _,⟨_,rfl⟩,q⟩
def Jr{f:Value->Value->Sem Value}{g:Int->Int->Bool}
  (rule:∀(i j:Int) (t u:Tok) (s:Shared) (Q:Value->Shared->Prop) (E:Value->Shared->Prop),Q (.bool (g i j)) s->wpAny (model X.prog X.w) X.A (f (.int i t) (.int j u)) Q E s) :
  OpR X f (IB λi j=>.bl (g i j)):=by
 intro ah s σ H x y v u Q I rx ry h;obtain⟨i,j,rfl,rfl,q⟩:=h;obtain⟨t,rfl⟩:=rx;obtain⟨t',rfl⟩:=ry;exact rule i j t t' s _ _ ⟨.bl (g i j),H,I,rfl,q⟩
def X0(i j:Int):Prop:=0<j/\j<1073741824
def X1(i j:Int):Prop:=0<=j/\j<=1000000/\i.natAbs<2^64
def Js(i j:Int):Prop:=(-(2^64)<i/\i<2^64)\/(-(2^64)<j/\j<2^64)
def Js.ok(h:Js i j):IntMulOk i j:=by
 rcases h with⟨h1,h2⟩ | ⟨h1,h2⟩
 ·exact .of_left (intBits_le_64 h1 h2)
 ·exact .of_right (intBits_le_64 h1 h2)
def Oc:OpR X (binaryOp .Add) (IB λi j=>.int (i+j)):=Ob λ_ _ _ _ _ _ _ q=>add_int q
def Od:OpR X (binaryOp .Sub) (IB λi j=>.int (i-j)):=Ob λ_ _ _ _ _ _ _ q=>sub_int q
def Oe:OpR X (binaryOp .Mult) (rI Js λi j=>.int (i*j)):=SS λ_ _ _ _ _ _ _ hc q=>mul_int q hc.ok
def Jt:OpR X (binaryOp .FloorDiv) (rI X0 λi j=>.int (i/j)):=SS λi j _ _ _ _ _ hc q=>by
 have h1:=hc.1;have h2:=hc.2;exact floordiv_int (by lia) (by rw[Int.fdiv_eq_ediv_of_nonneg i (by lia)];exact q) (.inl (PyProof.noPylong_small (by lia)))
def Of:OpR X (binaryOp .Mod) (rI (λ_ j=>0<j) λi j=>.int (i%j)):=SS λi j _ _ _ _ _ hc q=>by
 have h1:=hc;exact mod_int' (by lia) (by rw[Int.fmod_eq_emod_of_nonneg i (by lia)];exact q)
def Og:OpR X (binaryOp .Pow) (rI X1 λi j=>.int (i^j.toNat)):=SS λ_ _ _ _ _ _ _ hc q=>pow_int_small hc.1 hc.2.1 hc.2.2 q
def Ju:OpR X (inplaceOp .Add) (IB λi j=>.int (i+j)):=Ob λ_ _ _ _ _ _ _ q=>iadd_int q
def unI{f:Value->Sem Value}{g:Int->Int}
  (rule:∀(i:Int) (t:Tok) (s:Shared) (Q:Value->Shared->Prop) (E:Value->Shared->Prop),Q (.int (g i) s.toks) {s with toks:=s.toks+1}->wpAny (model X.prog X.w) X.A (f (.int i t)) Q E s) :
  UnR X f (rU λi=>.int (g i)):=by
 intro ah s σ H x v Q I rx h;obtain⟨i,rfl,q⟩:=h;obtain⟨t,rfl⟩:=rx;exact rule i t s _ _ ⟨.int (g i),H,I.tok _,⟨_,rfl⟩,q⟩
def Oh:UnR X (unaryOp .USub) (rU λi=>.int (-i)):=unI λ_ _ _ _ _ q=>neg_int q
end
section
variable {X:Cx} {a b c:Expr} {ta tb tc:TE} {pos:Pos}
def Fj{ah:List (Addr×Obj)}{σ:St}{H:Hp}{s:Shared}{Q:VK}{k k':Bool}(I:Inv X ah σ H s)(q:Q (.bl k) H)(e:k=k'):EP X ah σ Q (.bool k') s:=by
 subst e;exact⟨.bl k,H,I,rfl,q⟩
def SU:OpR X (compareOp .Lt) (IB λi j=>.bl (decide (i<j))):=Jr λ_ _ _ _ _ _ _ q=>lt_int q
def SV:OpR X (compareOp .LtE) (IB λi j=>.bl (decide (i<=j))):=Jr λ_ _ _ _ _ _ _ q=>le_int q
def SW:OpR X (compareOp .Gt) (IB λi j=>.bl (decide (j<i))):=Jr λ_ _ _ _ _ _ _ q=>gt_int q
def SX:OpR X (compareOp .GtE) (IB λi j=>.bl (decide (j<=i))):=Jr λ_ _ _ _ _ _ _ q=>ge_int q
def Oi:OpR X (compareOp .Is) (λx y H Q=>y=.aL/\Q (.bl (decide (x=.aL))) H):=by
 intro ah s σ H x y v u Q I rx ry h;obtain⟨rfl,q⟩:=h;cases ry;refine is_none_gen (Fj I q ?_);cases x<;>first
  | (cases rx;rfl)
  | (obtain⟨t,rfl⟩:=rx;rfl)
def Jv:OpR X (compareOp .IsNot) (λx y H Q=>y=.aL/\Q (.bl (!decide (x=.aL))) H):=by
 intro ah s σ H x y v u Q I rx ry h;obtain⟨rfl,q⟩:=h;cases ry;refine isnot_none_gen (Fj I q ?_);cases x<;>first
  | (cases rx;rfl)
  | (obtain⟨t,rfl⟩:=rx;rfl)
def Jw(ho:OpR X (compareOp op) r)(ha:PE X a ta)(hb:PE X b tb)(hm:behindInMarks op b=false):PE X (.Compare a [op] [b] pos) (SQ r ta tb):=by
 intro ah s σ H Q I h;exact wpAny_Compare1 (Oa ha hb I h λv u s2 x y H2 I2 rx ry q=>ho ah s2 σ H2 x y v u Q I2 rx ry q) hm
def Mp(t:TE):TT:=λσ H Q=>t σ H λx H'=>∃k,x=.bl k/\Q k H'
def Jx(ho:OpR X (compareOp op) r)(ha:PE X a ta)(hb:PE X b tb)(hm:behindInMarks op b=false):PT X (.Compare a [op] [b] pos) (Mp (SQ r ta tb)):=by
 intro ah s σ H Q I h;refine wpAny_isTrue_Compare1 (thn (ha ah s σ H _ I h) λv s1 ⟨x,H1,I1,r1,q1⟩=>thn (hb ah s1 σ H1 _ I1 q1) λu s2 ⟨y,H2,I2,r2,q2⟩ =>
  thn (ho ah s2 σ H2 x y v u _ I2 r1 r2 q2) λc s3 ⟨z,H3,I3,r3,k,e,q3⟩=>?_) hm
 subst e;cases r3;exact ji ⟨H3,I3,q3⟩
def zS(r r':R2)(ta tb tc:TE):TE:=λσ H Q=>ta σ H λx H1=>tb σ H1 λy H2=>r x y H2 λz H3=>∃k,z=.bl k /\
 (if k=true then tc σ H3 λw' H4=>r' y w' H4 Q else Q (.bl false) H3)
def Fl(ho:OpR X (compareOp op) r)(mP:OpR X (compareOp wK) r')(ha:PE X a ta)(hb:PE X b tb)(hc:PE X c tc)
  (hm:lastMarks [op,wK] [b,c]=false:=by with_unfolding_all rfl):PE X (.Compare a [op,wK] [b,c] pos) (zS r r' ta tb tc):=by
 intro ah s σ H Q I h;refine Compare_chain (thn (ha ah s σ H _ I h) λv s1 ⟨x,H1,I1,r1,q1⟩=>chain_link (thn (hb ah s1 σ H1 _ I1 q1) λu s2 ⟨y,H2,I2,r2,q2⟩ =>
  thn (ho ah s2 σ H2 x y v u _ I2 r1 r2 q2) λd s3 ⟨z,H3,I3,r3,k,e,q3⟩=>?_)) hm
 subst e;cases r3;refine ji ?_;cases k with
 | false=>exact ite_ff ⟨.bl false,H3,I3,rfl,q3⟩
 | true=>exact ite_tt (chain_last (thn (hc ah s3 σ H3 _ I3 q3) (by rintro w' s4 ⟨z',H4,I4,r4,q4⟩;exact mP ah s4 σ H4 y z' u w' Q I4 r2 r4 q4)))
def Fm(ho:OpR X (compareOp op) r)(mP:OpR X (compareOp wK) r')(ha:PE X a ta)(hb:PE X b tb)(hc:PE X c tc)
  (hm:lastMarks [op,wK] [b,c]=false:=by with_unfolding_all rfl):PT X (.Compare a [op,wK] [b,c] pos) (Mp (zS r r' ta tb tc)):=by
 intro ah s σ H Q I h;refine isTrue_chain (thn (ha ah s σ H _ I h) λv s1 ⟨x,H1,I1,r1,q1⟩=>test_link (thn (hb ah s1 σ H1 _ I1 q1) λu s2 ⟨y,H2,I2,r2,q2⟩ =>
  thn (ho ah s2 σ H2 x y v u _ I2 r1 r2 q2) λd s3 ⟨z,H3,I3,r3,k,e,q3⟩=>?_)) hm
 subst e;cases r3;refine ji ?_;cases k with
 | false =>
  obtain⟨k',e',q'⟩:=q3;cases e';exact ite_ff ⟨H3,I3,q'⟩
 | true =>
  refine ite_tt (test_last (thn (hc ah s3 σ H3 _ I3 q3) λw' s4 ⟨z',H4,I4,r4,q4⟩=>thn (mP ah s4 σ H4 y z' u w' _ I4 r2 r4 q4) λd' s5 z9=>?_))
  obtain⟨z2,H5,I5,r5,k2,e2,q5⟩:=z9;subst e2;cases r5;exact ji ⟨H5,I5,q5⟩
def Jy(K:W.Frag)(x:V)(H:Hp)(k:Bool):Prop :=
 match x with
 | .aL=>k=false
 | .bl b=>k=b
 | .int i=>k=(i != 0)
 | .str y=>y.length<=sizeLine/\k=((y.length:Int) != 0)
 | .RB y=>y.size<=sizeLine/\k=((y.size:Int) != 0)
 | .ref p=>(∃xs,u6 K H p xs/\k = !xs.isEmpty)\/(∃xs,iC K H p xs/\k = !xs.isEmpty)\/∃kvs,H p=some (.dK kvs)/\k = !kvs.isEmpty
 | _=>False
def zU{κ:Type}{kvs:List (κ×V)}{vs:List (κ×Value)}(r:KV kvs vs):(!vs.isEmpty) = !kvs.isEmpty:=by
 cases r<;>rfl
def qj(r:Vals xs ax):(!ax.toArray.isEmpty) = !xs.isEmpty:=by
 cases r<;>simp
def kY:(sizeLine:Nat)<2^63:=by rw[kU];decide
def Fo:XZ X (λx H Q=>∃k,Jy X.K x H k/\Q k H):=by
 intro ah s σ H x v Q I rx h;obtain⟨k,e,q⟩:=h;have hl:=kY;have hs:=kU;cases x with
 | aL =>
  cases rx;have e':=e;subst e';exact truthy_none ⟨H,I,q⟩
 | bl b =>
  cases rx;have e':=e;subst e';exact ji ⟨H,I,q⟩
 | int i =>
  obtain⟨t,rfl⟩:=rx;have e':=e;subst e';exact PySem.P.truthy_int ⟨H,I,q⟩
 | str y =>
  obtain⟨t,rfl⟩:=rx;obtain⟨hy,e'⟩:y.length<=sizeLine/\k=((y.length:Int) != 0):=e;subst e';exact PySem.P.truthy_str (by lia) ⟨H,I.tok _,q⟩
 | RB y =>
  obtain⟨t,rfl⟩:=rx;obtain⟨hy,e'⟩:y.size<=sizeLine/\k=((y.size:Int) != 0):=e;subst e';exact W.truthy_bytes (by lia) ⟨H,I.tok _,q⟩
 | ref p =>
  cases rx;have e':=e;rcases e' with⟨xs,hx,e'⟩ | ⟨xs,hx,e'⟩ | ⟨kvs,hx,e'⟩
  ·subst e';obtain⟨ax,r,pl,hz⟩:=I.list hx;have eW:=r.length;exact wpAny_truthy_list pl.isList (by grind) ⟨H,I.tok _,by rw[qj r];exact q⟩
  ·subst e';obtain⟨ax,r,pl,hz⟩:=I.tuple hx;have eW:=r.length;exact truthy_tuple pl (by grind) ⟨H,I.tok _,by rw[qj r];exact q⟩
  ·subst e';obtain⟨hz,hS,vs,r,m⟩:kvs.length<=sizeLine/\(p==sysModules)=false/\∃vs,KV kvs vs/\s.heap.DictOf (dj X.prog X.w) p vs:=I.hok p _ hx
   have eW:=m7 r;exact wpAny_truthy_dict hS m (by lia) ⟨H,I.tok _,by rw[zU r];exact q⟩
 | _=>exact(e).elim
def Fp(ha:PE X a ta)(he:∀iU,isTrue a X.env iU=(do let v <-iU;standAt a.pos;holding [v] (truthy v))) :
  PT X a (λσ H Q=>ta σ H λx H'=>∃k,Jy X.K x H' k/\Q k H'):=by
 intro ah s σ H Q I h;exact isTrue_plain (thn (ha ah s σ H _ I h) (by rintro v s1 ⟨x,H1,I1,r1,q1⟩;exact Fo ah s1 σ H1 x v Q I1 r1 q1)) (he _)
def zV:OpR X (binaryOp .Add) (λx y H Q=>∃i j,x=.str i/\y=.str j/\i.length+j.length<=sizeLine/\Q (.str (i++j)) H):=by
 intro ah s σ H x y v u Q I rx ry h;obtain⟨i,j,rfl,rfl,hz,q⟩:=h;obtain⟨t,rfl⟩:=rx;obtain⟨t',rfl⟩:=ry;exact add_str (λt' tk=>⟨.str (i++j),H,I.tok _,⟨_,rfl⟩,q⟩) hz
def km(r:Vals [x] us):∃u,us=[u]/\RelV x u:=by
 cases r with
 | cons r1 r2=>cases r2;exact⟨_,rfl,r1⟩
def Fq(r:Vals [x,y] us):∃u w',us=[u,w']/\RelV x u/\RelV y w':=by
 cases r with
 | cons r1 r2 =>
  cases r2 with
  | cons r3 r4=>cases r4;exact⟨_,_,rfl,r1,r3⟩
def sS:kl X (.type "int") (λxs H Q=>(∃i,xs=[.int i]/\Q (.int i) H)\/∃k,xs=[.bl k]/\Q (.int (if k then 1 else 0)) H):=by
 intro ah s σ H xs us Q I r h;rcases h with⟨i,rfl,q⟩ | ⟨k,rfl,q⟩
 ·obtain⟨u,rfl,t,rfl⟩:=km r;exact call_int_int ⟨.int i,H,I,⟨_,rfl⟩,q⟩
 ·obtain⟨u,rfl,r1⟩:=km r;cases r1;exact call_int_bool ⟨.int (if k then 1 else 0),H,I.tok _,⟨_,rfl⟩,q⟩
def u9:kl X (.type "str") (λxs H Q=>∃i,xs=[.int i]/\i.natAbs.log2<1920/\Q (.str (toString i)) H):=by
 intro ah s σ H xs us Q I r h;obtain⟨i,rfl,hz,q⟩:=h;obtain⟨u,rfl,t,rfl⟩:=km r;exact PySem.P.str_of_int hz ⟨.str _,H,I.tok _,⟨_,rfl⟩,q⟩
end
structure zW (h:Heap) (x dx C:Addr) (mA:Str->Option Value):Prop where
 obj:h.get? x=some (W.instObj C dx)
 ns:h.Ns1 dx mA
 ne:dx≠x
def C7{h:Heap}{mA:Str->Option Value}(n:h.Ns1 dx mA):∃od,h.get? dx=some od/\∀name,W.lookIn name od=some (mA name):=by
 obtain⟨o,es,ep,ho,hd,hk,_,hm⟩:=n;refine⟨o,ho,λname=>?_⟩
 have e:=hm name;unfold nsFind findBy at e;rw[<-Array.find?_toList]at e;unfold W.lookIn;rw[hd];dsimp only
 split
 ·grind
 ·rename_i q;rw[q]at e;have a:es.toList.any (·.refKey)=false:=by
   rw[zj];intro y hy;obtain⟨z,t,Oj⟩:=hk y (Array.mem_toList_iff.mp hy);simp[DictEntry.refKey,Oj]
  have a':¬es.toList.any (·.refKey)=true:=by grind
  rw[if_neg a'];exact eU some e
def zW.kZ(I:zW h x dx C mA):∃od,W.InstAt h x (W.instObj C dx) C (some od)/\∀name,W.lookIn name od=some (mA name) :=
 let ⟨od,ho,hl⟩:=C7 I.ns
 ⟨od,⟨I.obj,rfl,rfl,ho⟩,hl⟩
section
variable {prog:Program} {w:World} {A:Around} {E:Value->Shared->Prop} {s:Shared} {K:W.Frag} {x dx C f:Addr} {mA:Str->Option Value} {name:Str} {v:Value}
def Jz(X:K.In s.heap)(I:zW s.heap x dx C mA)(hg:W.plainGet K C name=true)(hh:W.hasDictIn K C=true)
  (ha:W.findIn K (.ref C) name=some none) (hv:mA name=some v) (X2:W.handedIn v=true) (h:Q v {s with toks:=s.toks+1}) :
  wpAny (model prog w) A (getAttr (.ref x) name expr) Q E s:=by
 obtain⟨od,J,hl⟩:=I.kZ;exact W.get_value X J (W.plainGet_of hg).1 (W.findObj_own hh ha rfl (by rw[hl,hv])) X2 h
def JA(X:K.In s.heap)(I:zW s.heap x dx C mA)
  (hs:W.findIn K (.ref C) "__setattr__"=some (some (.builtin "object.__setattr__"))) (hp:W.plainOver K C=true) (ht:W.takerIn K C name=some none) (hh:W.hasDictIn K C=true)
  (hw:PySem.Within mA ns) (hsz:ns.length<=sizeLine)
  (h:∀h',zW h' x dx C (λy=>if y=name then some v else mA y)->Heap.SameBut dx s.heap h'->Q () {s with heap:=h',toks:=s.toks+2}) :
  wpAny (model prog w) A (setAttr (.ref x) name v) Q E s:=by
 obtain⟨od,J,hl⟩:=I.kZ;refine W.set_plain X J hs (W.osa_open X J hp ht λb=>?_)
 obtain⟨cd,hc,El⟩:=W.any_some hh;have hx:=I.obj;refine ai (ar (ai (ai (wpAny_loadPart hx (ai (W.Looks.here (W.looks_clsIn X hc) ?_))))));rw[El];refine ar (ai (ar (ai ?_)));refine wpAny_nsSet1 I.ns λh' hn2 Fs=>?_
 obtain⟨oD,esD,epD,hoD,hdD,hcD⟩:=hn2.count (PySem.Within.cons name v hw);refine ai (wpAny_lookBehind hoD (by rw[hdD];exact pastItsLine_dict (aY hcD (by grind))) ?_)
 exact ar (h _ ⟨(Fs.2 _ (bU I.ne)).trans I.obj,hn2,I.ne⟩ Fs)
def Ft(X:K.In s.heap)(hm:W.makesIn K C=true)
  (hi:W.findIn K (.ref C) "__init__"=some (some (.ref f))) (hf:W.typeIn K (.ref f)=some (.type "function"))
  (h:codeAny (model prog w) (A.under (.builtin "type.__call__" ⟨.ref C::vs,kw⟩)) (.call (.ref f) ⟨.ref (s.heap.objs.size+1)::vs,kw⟩) (W.InitBack (s.heap.objs.size+1) R)
   {s with heap:=(s.heap.push W.emptyDict).push (W.instObj C s.heap.objs.size)}) :
  codeAny (model prog w) A (.call (.ref C) ⟨vs,kw⟩) R s:=by
 obtain⟨hh,g,d,t,os⟩:=s;exact W.make_core (W.makes_of X hm) (W.looks_findIn X hi) (λself=>W.bind_fn X self hf) (.inl rfl) h
end
noncomputable def gS(f:Str)(v:V):List (Str×V)->List (Str×V)
 | []=>[(f,v)]
 | (g,x)::r=>if g=f then(g,v)::r else(g,x)::gS f v r
theorem nP(f g:Str)(v:V):∀fs:List (Str×V),(gS f v fs).lookup g=if g=f then some v else fs.lookup g
 | []=>by
  show List.lookup g [(f,v)]=_;by_cases h:g=f
  ·grind
  ·grind
 | (k,x)::r=>by
  have ih:=nP f g v r;rw[show gS f v ((k,x)::r)=(if k=f then(k,v)::r else(k,x)::gS f v r)from rfl]
  by_cases hk:k=f
  ·grind
  ·grind
theorem ny(f:Str)(v:V):∀fs:List (Str×V),f∈(gS f v fs).map (·.1)/\∀g,g∈fs.map (·.1)->g∈(gS f v fs).map (·.1)
 | []=>⟨by simp[gS],λg h=>by simp at h⟩
 | (k,x)::r=>by
  obtain⟨i1,i2⟩:=ny f v r;rw[show gS f v ((k,x)::r)=(if k=f then(k,v)::r else(k,x)::gS f v r)from rfl]
  by_cases hk:k=f
  ·grind
  ·grind
theorem nQ(f:Str)(v:V):∀fs:List (Str×V),(gS f v fs).length<=fs.length+1
 | []=>by simp[gS]
 | (k,x)::r=>by
  have ih:=nQ f v r;rw[show gS f v ((k,x)::r)=(if k=f then(k,v)::r else(k,x)::gS f v r)from rfl]
  by_cases hk:k=f
  ·grind
  ·grind
def nZ.JB(r:nZ (some v) o):∃u,o=some u/\RelV v u:=by
 cases o with
 | none=>exact(r).elim
 | some u=>exact⟨u,rfl,r⟩
def nZ.none_of(r:nZ none o):o=none:=by
 cases o with
 | none=>rfl
 | some u=>exact(r).elim
def C8(r:RelV v u):W.handedIn u=true:=by
 cases v with
 | aL=>cases(r);rfl
 | bl b=>cases(r);rfl
 | int i=>obtain⟨t,e⟩:=(r);cases e;rfl
 | str x=>obtain⟨t,e⟩:=(r);cases e;rfl
 | RB b=>obtain⟨t,e⟩:=(r);cases e;rfl
 | Wo b=>obtain⟨t,e⟩:=(r);cases e;rfl
 | ref a=>cases(r);rfl
 | ty n=>cases(r);rfl
section
variable {P:Program} {w:World} {H H':Hp} {h h':Heap} {a C dx:Addr} {fs Mh:List (Str×V)}
def vc(hok:lG P w H h)(e:H a=some (.ins C dx fs)):∃mA,zW h a dx C mA/\(∀f,nZ (fs.lookup f) (mA f))/\PySem.Within mA (fs.map (·.1))/\fs.length<=1000/\H dx=some (.own a):=by
 obtain⟨d,z,ne,ob,mA,n,r,q⟩:=(hok a _ e);exact⟨mA,⟨ob,n,ne⟩,r,q,z,d⟩
end
def rY.get{K:W.Frag}{C:Addr}(c:rY K C)(f:Str):W.plainGet K C f=true:=c.pg
def gD.SY{K:W.Frag}{C:Addr}{f:Str}(n:gD K C f):W.takerIn K C f=some none:=by
 unfold W.takerIn;rw[show W.findIn K (.ref C) f=some none from n]
 rfl
section
variable {X:Cx} {ah:List (Addr×Obj)} {σ:St} {H:Hp} {s:Shared} {a C dx:Addr} {fs:List (Str×V)} {f:Str} {v:V} {A:Around} {E:Value->Shared->Prop}
def qk(I:Inv X ah σ H s)(e:H a=some (.ins C dx fs))(c:rY X.K C)(n:gD X.K C f)(l:fs.lookup f=some v)
  (h:∀u s',Inv X ah σ H s'->RelV v u->Q u s'):wpAny (model X.prog X.w) A (getAttr (.ref a) f b) Q E s:=by
 obtain⟨mA,O,r,_,_,_⟩:=vc I.hok e;obtain⟨u,hu,ru⟩:=nZ.JB (by rw[<-l];exact r f)
 exact Jz I.og O (c.get f) c.hd n hu (C8 ru) (h u _ (I.tok _) ru)
def qm(I:Inv X ah σ H s)(e:H a=some (.ins C dx fs))(c:rY X.K C)(n:gD X.K C f)(hl:fs.length<1000)(ry:RelV y u)
  (h:∀s',Inv X ah σ (cU H a (.ins C dx (gS f y fs))) s'->Q () s'):wpAny (model X.prog X.w) A (setAttr (.ref a) f u) Q E s:=by
 obtain⟨mA,O,r,wi,_,ho⟩:=vc I.hok e;have hz:(fs.map (·.1)).length<=sizeLine:=by rw[aU,kU];lia
 refine JA I.og O c.sa c.po n.SY c.hd wi hz λh' O' sb=>h _ ?_
 have hd:∃o,h'.get? dx=some o:=let ⟨o,_,_,e',_⟩:=O'.ns;⟨o,e'⟩
 refine I.write (by rw[e];exact True.intro) (.inr ho) (λb q hb z=>(sb.2 b hb).trans z) hd ?_
 refine⟨by rw[aN O.ne];exact ho,?_,O.ne,O'.obj,_,O'.ns,λg=>?_,λg hg=>?_⟩
 ·have:=nQ f y fs;lia
 ·rw[nP];by_cases q:g=f
  ·rw[if_pos q,if_pos q];exact ry
  ·rw[if_neg q,if_neg q];exact r g
 ·by_cases q:g=f
  ·rw[q];exact(ny f y fs).1
  ·refine(ny f y fs).2 g (wi g λz=>hg ?_)
   show(if g=f then some u else mA g)=none
   rw[if_neg q];exact z
def Inv.made(I:Inv X ah σ H s):Inv X ah σ (cU (cU H s.heap.objs.size (.own (s.heap.objs.size+1))) (s.heap.objs.size+1) (.ins C s.heap.objs.size []))
  {s with heap:=(s.heap.push W.emptyDict).push (W.instObj C s.heap.objs.size)}:=by
 have e1:(s.heap.push W.emptyDict).get? s.heap.objs.size=some W.emptyDict:=bL s.heap rfl;have e2:((s.heap.push W.emptyDict).push (W.instObj C s.heap.objs.size)).get? (s.heap.objs.size+1)=some (W.instObj C s.heap.objs.size):=by
  have:=bL (s.heap.push W.emptyDict) (o:=W.instObj C s.heap.objs.size) rfl
  rwa [eG]at this
 have e3:(s.heap.push W.emptyDict).Ns s.heap.objs.size (λ_=>none):=⟨W.emptyDict,#[],_,e1,rfl,(λe he=>absurd he (by simp)),λ_=>rfl⟩
 have I1:=I.laid (o:=.own (s.heap.objs.size+1)) (t':=s.toks) (λb u q=>aK _ q) (aF _) ⟨_,e1⟩
 refine I1.laid (t':=s.toks) (λb u q=>aK _ q) (jo (eG _ _)) ?_
 have ne:s.heap.objs.size≠s.heap.objs.size+1:=by grind
 refine⟨by rw[aN ne,aA],iA _,ne,e2,λ_=>none,(Heap.Ns1.of_empty e3).at λo q=>aK _ q,λ_=>True.intro,λy hy=>absurd rfl hy⟩
def JC(hb:attributeBase e f env (eval e env)=eval e env)
  (h:wpAny (model prog w) A (eval e env) (λo s₁=>wpAny (model prog w) A (getAttr o f true) Q E s₁) E s):wpAny (model prog w) A (eval (.Attribute e f pos) env) Q E s :=
 Attribute_any_ h (by rw[arm_eval_Attribute,hb])
end
def X3(K:W.Frag)(ta:TE)(f:Str):TE:=λσ H Q=>ta σ H λx H1=>∃a C dx fs v,x=.ref a/\H1 a=some (.ins C dx fs)/\rY K C/\gD K C f/\fs.lookup f=some v/\Q v H1
def X4(K:W.Frag)(ta tv:TE)(f:Str):TS:=λD σ H=>tv σ H λy H1=>ta σ H1 λx H2=>∃a C dx fs,x=.ref a/\H2 a=some (.ins C dx fs)/\rY K C/\gD K C f/\fs.length<1000 /\
 D.nx σ (cU H2 a (.ins C dx (gS f y fs)))
section
variable {X:Cx} {o e value:Expr} {f:Str} {pos oh qo:Pos} {ta tv:TE}
def Ol(he:PE X e ta)(hb:attributeBase e f X.env (eval e X.env)=eval e X.env):PE X (.Attribute e f pos) (X3 X.K ta f):=by
 intro ah s σ H Q I h;refine JC hb (thn (he ah s σ H _ I h) λu s1 z9=>?_)
 obtain⟨x,H1,I1,rx,a,C,dx,fs,v,ex,ea,c,n,l,q⟩:=z9;subst ex;obtain rfl:u=Value.ref a:=rx;exact qk I1 ea c n l λu' s2 I2 ru=>⟨v,H1,I2,ru,q⟩
def Om(ha:PE X o ta)(hv:PE X value tv)(hs:swapsWith value (some (.Attribute o f oh)) pos.line X.env=pure false):PS X (.Assign [.Attribute o f oh] value pos) (X4 X.K ta tv f):=by
 intro ah s σ H D I h;refine plainObj_wpAny_Assign_Attribute (thn (hv ah s σ H _ I h) λu s1 ⟨y,H1,I1,ry,q⟩=>thn (ha ah s1 σ H1 _ I1 q) λov s2 z9=>?_) hs
 obtain⟨x,H2,I2,rx,a,C,dx,fs,ex,ea,c,n,l,q2⟩:=z9;subst ex;obtain rfl:ov=Value.ref a:=rx;exact qm I2 ea c n l ry λs3 I3=>⟨σ,_,I3,q2⟩
end
structure c7 (k:Nat) (A:Around):Prop where
 hd:A.handled=none
 dp:A.depth+3*k+5<recursionLimit
 un:A.units+16*k+1200<cLine
def c7.mono(r:c7 k A)(h:j<=k):c7 j A:=⟨r.hd,by have:=r.dp;lia,by have:=r.un;lia⟩
def c7.deeper(r:c7 (k+1) A)(env:Env):c7 k (A.deeper env) :=
 ⟨r.hd,by have:=r.dp;show A.depth+1+3*k+5<_;lia,by have:=r.un;show A.units+3+16*k+1200<_;lia⟩
def zX{A:Around}:(A.under (.builtin "type.__call__" ⟨.ref C::us,kw⟩)).depth=A.depth+1:=by
 first | rfl | simp[Around.under,Code.weight,Code.isCreation,Code.isGuard,Code.isCaller,Code.frames,Code.isFrame,guardIds]
def zY{A:Around}:(A.under (.builtin "type.__call__" ⟨.ref C::us,kw⟩)).units=A.units+1:=by
 first | rfl | simp[Around.under,Code.cUnits,Code.frames,Code.isFrame]
def c7.make(r:c7 (k+1) A)(C:Addr)(us:List Value)(kw:List (Str×Value)):c7 k (A.under (.builtin "type.__call__" ⟨.ref C::us,kw⟩)) :=
 ⟨r.hd,by have:=r.dp;rw[zX];lia,by have:=r.un;rw[zY];lia⟩
def c7.depth(r:c7 k A):A.depth<recursionLimit:=by have:=r.dp;lia
def Oo:TA:=λ_ H Q=>Q [] H
def S0(ta:TE)(tr:TA):TA:=λσ H Q=>ta σ H λx H1=>tr σ H1 λxs H2=>Q (x::xs) H2
section
variable {X:Cx} {e:Expr} {es:List Expr} {te:TE} {t:TA} {pos:Pos}
def qp:PA X [] Oo:=λ_ _ _ _ H Q I h=>Calls.spliced_nil ⟨[],H,I,.nil,h⟩
def gV(ha:PE X e te)(hr:PA X es t)(hs:starEach (e::es) X.env=(false,eval e X.env)::starEach es X.env:=by rfl):PA X (e::es) (S0 te t):=by
 intro pos ah s σ H Q I h;rw[hs];refine Calls.spliced_cons (thn (ha ah s σ H _ I h) λu s1 ⟨x,H1,I1,r1,q1⟩=>?_)
 exact thn (hr pos ah s1 σ H1 _ I1 q1) (by rintro us s2 ⟨xs,H2,I2,r2,q2⟩;exact⟨x::xs,H2,I2,.cons r1 r2,q2⟩)
def X5(t:TA):TE:=λσ H Q=>t σ H λxs H1=>xs.length<=sizeLine/\∀p,H1 p=none->Q (.ref p) (cU H1 p (.au xs))
def X6(t:TA):TE:=λσ H Q=>t σ H λxs H1=>xs.length<=sizeLine/\∀p,H1 p=none->Q (.ref p) (cU H1 p (.lst xs))
def Oq{x1}(h:PA X es t):PE X (.Tuple es x1 pos) (X5 t):=by
 intro ah s σ H Q I hq;refine wpAny_Tuple_spliced (thn (h pos ah s σ H _ I hq) λus s1 ⟨xs,H1,I1,r,z,q⟩=>⟨by rw[<-r.length];exact z,?_⟩)
 have hf:=I1.hok.fresh (aF _);refine⟨.ref s1.heap.objs.size,cU H1 s1.heap.objs.size (.au xs),I1.laid (λb u e=>aK _ e) (aF _) ?_,rfl,q _ hf⟩
 exact⟨z,us,r,n8.new _ _⟩
def Fu(h:PA X es t):PE X (.List es pos) (X6 t):=by
 intro ah s σ H Q I hq;refine wpAny_List_spliced (thn (h pos ah s σ H _ I hq) λus s1 ⟨xs,H1,I1,r,z,q⟩=>⟨by rw[<-r.length];exact z,?_⟩)
 have hf:=I1.hok.fresh (aF _);refine⟨.ref s1.heap.objs.size,cU H1 s1.heap.objs.size (.lst xs),I1.laid (λb u e=>aK _ e) (aF _) ?_,rfl,q _ hf⟩
 exact⟨z,us,0,r,bL _ rfl⟩
end
abbrev Sp:=List V->Hp->VK->XK->Prop
abbrev CO:=List Env->Hp->Shared->XK->Value->Shared->Prop
structure Env0 (P:Program) (w:World) (K:W.Frag) (mg:Str->Option Value) (base:Heap) (A:Around) (aB:List Env) (s:Shared) (H:Hp):Prop where
 frames:A.frames=some aB
 mod:Mod K mg base
 bs:∀b o,base.get? b=some o->s.heap.get? b=some o/\H b=none
 bsz:base.objs.size<=s.heap.objs.size
 funs:s.heap.FunFrames base aB
 frf:∀b∈lN aB,H b=none
 hok:lG P w H s.heap
 bare:AllBare s.gens
 tabs:qd K H
def CE(aB:List Env)(P:Program)(w:World)(H:Hp)(s:Shared)(Q:VK)(u:Value)(s':Shared):Prop :=
 ∃v H',s'.os=s.os/\AllBare s'.gens/\Un (lN aB) [] H H' s.heap s'.heap/\lG P w H' s'.heap/\RelV v u/\Q v H'
def CR(CX:CO)(aB:List Env)(P:Program)(w:World)(H:Hp)(s:Shared)(Q:VK)(E:XK)(r:Result)(s':Shared):Prop :=
 match r with
 | .ok (.ret u)=>CE aB P w H s Q u s'
 | .ok _=>False
 | .error e=>CX aB H s E e s'
structure FnOk (P:Program) (w:World) (K:W.Frag) (mg:Str->Option Value) (base:Heap) (CX:CO) (k:Nat) (f:Addr) (fd:FuncData) (ps:List Str) (sp:Sp):Prop where
 len:∀vs H Q E,sp vs H Q E->vs.length=ps.length
 run:∀(A:Around) (aB:List Env) (s:Shared) (H:Hp) (args:Args) (us:List Value) (vs:List V) (Q:VK) (E:XK),c7 k A->Env0 P w K mg base A aB s H->BindsTo s fd args (ps.zip us)->Vals vs us->sp vs H Q E ->
  codeAny (model P w) A (.call (.ref f) args) (CR CX aB P w H s Q E) s
def Env0.make{P:Program}{w:World}{K:W.Frag}{mg:Str->Option Value}{base:Heap}{A:Around}{aB:List Env}{s:Shared}{H:Hp}(e:Env0 P w K mg base A aB s H)(C:Addr)(us:List Value)(kw:List (Str×Value)) :
  Env0 P w K mg base (A.under (.builtin "type.__call__" ⟨.ref C::us,kw⟩)) aB s H:=⟨by first | exact e.frames | (simpa[Around.under,Code.envs,Code.isFrame,pushEnvs]using e.frames),e.mod,e.bs,e.bsz,e.funs,e.frf,e.hok,e.bare,e.tabs⟩
section
variable {X:Cx} {ah:List (Addr×Obj)} {σ:St} {H:Hp} {s s':Shared}
def Inv.Ot(I:Inv X ah σ H s):Env0 X.prog X.w X.K X.mg X.base X.A X.stack s H :=
 ⟨I.ok.frames,I.ok.mod,I.bs,aY I.ok.bsz I.sz,I.stack,I.uZ,I.hok,I.bare,I.tabs⟩
def Inv.after(I:Inv X ah σ H s)(h:CE X.stack X.prog X.w H s Q u s'):EP X ah σ Q u s':=by
 obtain⟨v,H',os,bare,un,hok,r,q⟩:=h;obtain⟨hh,g,d,t,S2⟩:=s';obtain rfl:S2=s.os:=os;exact⟨v,H',I.call un hok bare (λb z=>absurd z (by simp)),r,q⟩
end
def Bp(C:Addr)(sp:Sp)(jr:List V)(E:XK)(t:TA):TE:=λσ H Q=>t σ H λvs H1=>∀x dx,H1 x=none->H1 dx=none->dx≠x ->
 sp (.ref x::(vs++jr)) (cU (cU H1 dx (.own x)) x (.ins C dx [])) (λv H2=>v=.aL/\Q (.ref x) H2) E
def vd(CX:CO)(X:Cx)(E:XK):Prop:=∀(ah:List (Addr×Obj)) (σ:St) (H:Hp) (s:Shared) (e:Value) (s':Shared),Inv X ah σ H s->CX X.stack H s E e s'->X.xe e s'
section
variable {X:Cx} {CX:CO} {k:Nat} {f C:Addr} {fd:FuncData} {ps:List Str} {sp:Sp} {jr:List V} {ds:List Value} {E:XK} {x m:Str} {p pos eP:Pos} {e o:Expr} {es:List Expr} {ta:TE} {t:TA}
def xh{ah:List (Addr×Obj)}{σ:St}{H:Hp}{s:Shared}{Q:VK}{us:List Value}{vs:List V}(M:Mk X.K C f)(F:FnOk X.prog X.w X.K X.mg X.base CX k f fd ps sp)(hr:c7 (k+1) X.A)(hb:cL X.K fd ps ds)(hd:Vals jr ds)
  (hx:vd CX X E) (I:Inv X ah σ H s) (r:Vals vs us)
  (h:∀x dx,H x=none->H dx=none->dx≠x->sp (.ref x::(vs++jr)) (cU (cU H dx (.own x)) x (.ins C dx [])) (λv H2=>v=.aL/\Q (.ref x) H2) E) :
  wpAny (model X.prog X.w) X.A (call (.ref C) us) (EP X ah σ Q) X.xe s:=by
 have hq:=h (s.heap.objs.size+1) s.heap.objs.size (I.hok.fresh (Nat.le_succ _)) (I.hok.fresh (aF _)) (bC (pF _));have I2:=Inv.made (C:=C) I;have r2:Vals (V.ref (s.heap.objs.size+1)::(vs++jr)) (Value.ref (s.heap.objs.size+1)::(us++ds)):=.cons rfl (r.append hd);have hl:(Value.ref (s.heap.objs.size+1)::us++ds).length=ps.length:=by
  have e:=r2.length;rw[F.len _ _ _ _ hq]at e;exact e.symm
 refine wpAny_call (Ft I.og M.makes M.init (pY.mp M.fn) (pT (F.run _ X.stack _ _ ⟨Value.ref (s.heap.objs.size+1)::us,[]⟩ (Value.ref (s.heap.objs.size+1)::(us++ds)) _ _ E (hr.make C us [])
  (I2.Ot.make C us []) (hb _ (Value.ref (s.heap.objs.size+1)::us) I2.og hl) r2 hq) λr s' S4=>?_))
 cases r with
 | error e=>exact hx ah σ _ _ e s' I2 S4
 | ok fl =>
  cases fl with
  | ret u =>
   obtain⟨v,H',I3,rv,ev,q3⟩:=I2.after S4;subst ev;exact⟨rv,⟨V.ref (s.heap.objs.size+1),H',I3,rfl,q3⟩⟩
  | next=>exact False.elim S4
  | brk=>exact False.elim S4
  | cont=>exact False.elim S4
def JD(M:Mk X.K C f)(F:FnOk X.prog X.w X.K X.mg X.base CX k f fd ps sp)(hr:c7 (k+1) X.A)(hg:Gl X x)(hm:X.mg x=some (.ref C))(hb:cL X.K fd ps ds)(hd:Vals jr ds)(hx:vd CX X E)
  (ha:PA X (e::es) t) (zO:(x==("__debug__":Str))=false:=by decide) (he:starEach (e::es) X.env=(false,eval e X.env)::starEach es X.env:=by rfl) (qa:(backTo pos (starEach es X.env)).any (·.1)=false:=by rfl) :
  PE X (.Call (.Name x p) (e::es) [] pos) (Bp C sp jr E t):=by
 intro ah s σ H Q I h;refine mU (ld_glob I hg hm ?_ zO);refine W.callWith_K I.ok.mod.kin M.kp (thn (ha pos ah s σ H _ I h) λus s1 ⟨vs,H1,I1,r,q⟩=>⟨I1.og,?_⟩) he qa
 exact xh M F hr hb hd hx I1 r q
end
theorem sT{kindOf:Str->Option NameKind}:∀{xi:List (Str×Value)} {m:Str->Option Value},(∀v,(x,v)∉xi)->bindL kindOf xi m x=m x
 | [],_,_=>rfl
 | (n,v)::r,m,h=>by
  unfold bindL;rw[sT λw hw=>h w (cG _ hw)]
  split
  ·grind
  ·rfl
theorem sU{kindOf:Str->Option NameKind}:∀{xi:List (Str×Value)} {m:Str->Option Value},(∀v,(x,v)∉xi)->bindC kindOf xi m x=m x
 | [],_,_=>rfl
 | (n,v)::r,m,h=>by
  unfold bindC;rw[sU λw hw=>h w (cG _ hw)]
  split
  ·rfl
  ·grind
theorem sV{kindOf:Str->Option NameKind}:∀{P:List Str} {vs:List Value} {i:Nat} {m:Str->Option Value},P.Nodup->P[i]?=some x->vs[i]?=some v->kindOf x=some .local ->
  bindL kindOf (P.zip vs) m x=some v
 | [],_,_,_,_,h,_,_=>by simp at h
 | _::_,[],_,_,_,_,h,_=>by simp at h
 | p::P,w::vs,0,m,nd,h1,h2,hk=>by
  simp at h1 h2;subst h1;subst h2;show bindL kindOf ((p,w)::P.zip vs) m p=_;unfold bindL;rw[sT λv hv=>(kP.mp nd).1 (zD hv).1,if_pos hk]
  simp
 | p::P,w::vs,i+1,m,nd,h1,h2,hk=>by
  unfold bindL;exact sV (kP.mp nd).2 (by simpa using h1) (by grind) hk
theorem sW{kindOf:Str->Option NameKind}:∀{P:List Str} {vs:List Value} {i:Nat} {m:Str->Option Value},P.Nodup->P[i]?=some x->vs[i]?=some v->kindOf x≠some .local ->
  bindC kindOf (P.zip vs) m x=some v
 | [],_,_,_,_,h,_,_=>by simp at h
 | _::_,[],_,_,_,_,h,_=>by simp at h
 | p::P,w::vs,0,m,nd,h1,h2,hk=>by
  simp at h1 h2;subst h1;subst h2;show bindC kindOf ((p,w)::P.zip vs) m p=_;unfold bindC;rw[sU λv hv=>(kP.mp nd).1 (zD hv).1,if_neg hk]
  simp
 | p::P,w::vs,i+1,m,nd,h1,h2,hk=>by
  unfold bindC;exact sW (kP.mp nd).2 (by simpa using h1) (by grind) hk
noncomputable def start(N:List Str)(vs:List V):St:=vs.map some++List.replicate (N.length-vs.length) none
noncomputable def fq(CX:CO)(P:Program)(w:World)(K:W.Frag)(mg:Str->Option Value)(base:Heap)(N:List Str)(qual:Str)(scope:Scope)(f:Addr)(cd:Value)(A:Around)(aB:List Env)(s:Shared)(H:Hp)(E:XK):Cx where
 prog:=P
 w:=w
 K:=K
 mg:=mg
 base:=base
 A:=A.deeper (envOfC qual scope s.heap.objs.size f cd)
 N:=N
 s₀:=s
 af:=H
 env:=envOfC qual scope s.heap.objs.size f cd
 aB:=aB
 stack:=envOfC qual scope s.heap.objs.size f cd::aB
 ex:=[]
 calm:=true
 fn:=λ_=>true
 pn:=[]
 xe:=λe s'=>wpAny (model P w) (A.deeper (envOfC qual scope s.heap.objs.size f cd)) (leaving (envOfC qual scope s.heap.objs.size f cd) e) (λ_ S5=>CX aB H s E e S5) (λe' S5=>CX aB H s E e' S5) s'
def xj{sc:Scope}(h:sc.names.lookup x=some .cell):∃c,(cellsFrom n sc.names []).lookup x=some c:=by
 have q:=W.cellsFrom_some sc.names n [] (.inl h);exact Option.isSome_iff_exists.mp q
def C9{CX:CO}{P:Program}{w:World}{K:W.Frag}{mg:Str->Option Value}{base:Heap}{N ps:List Str}{qual:Str}{scope:Scope}{f:Addr}{cd:Value}{A:Around}{aB:List Env}{s s1:Shared}{H:Hp}{E:XK}{us:List Value}{vs:List V}
  (S:cM N ps scope) (hd:A.handled=none) (e0:Env0 P w K mg base A aB s H) (hl:vs.length=ps.length) (r:Vals vs us)
  (x:InCallC s s.heap.objs.size (bindL (envOfC qual scope s.heap.objs.size f cd).kindOf (ps.zip us) λ_=>none) (cellsFrom (s.heap.objs.size+1) scope.names []) (bindC (envOfC qual scope s.heap.objs.size f cd).kindOf (ps.zip us) λ_=>none) s1) :
  Inv (fq CX P w K mg base N qual scope f cd A aB s H E) [] (start N vs) H s1:=by
 have qa:ps.length<=N.length:=by have:=eU List.length S.pre;rw[kN]at this;lia
 obtain⟨h1,tk,rfl,hk⟩:=x.done;have noA:∀b:Addr,b∉(fq CX P w K mg base N qual scope f cd A aB s H E).ex:=λb z=>absurd (show b∈([]:List Addr)from z) (by simp)
 refine⟨⟨e0.mod,S.kind,rfl,rfl,aF _,λy z c h1 h2=>?_,λy hy=>?_,λy c _ h=>?_,λ_=>hd,Around.frames_deeper e0.frames,.inr ⟨rfl,rfl⟩,λb z=>absurd z (noA b),e0.bs,e0.bsz,λb _ _=>noA b,λb z=>absurd z (noA b),e0.funs,e0.frf,e0.tabs⟩,
  rfl,e0.bare,Un.kept hk,⟨_,x.toInCall.ns,λi y v h1 h2 h3=>?_⟩,λy c h=>⟨_,x.cell y c h⟩,e0.hok.fresh (aF _),λy c h=>?_,λp hp=>absurd (show p∈([]:List (Addr×Obj))from hp) (by simp),e0.hok.kept hk,?_⟩
 ·exact name_of_addr x.apart (fB h1) (fB h2)
 ·have hy:=hy;rcases hy with hy | hy
  ·exact xj hy
  ·exact absurd rfl (S.nofree _ (fB hy))
 ·exact pU (x.above y c (fB h))
 ·have hi:i<vs.length:=by
   unfold start at h2;by_cases hi:i<vs.length
   ·exact hi
   ·grind
  have ha:vs[i]?=some v:=by
   unfold start at h2;rw[gz (by grind),cQ]at h2
   cases e:vs[i]? with
   | none=>rw[e]at h2;cases h2
   | some a=>rw[e]at h2;cases h2;rfl
  obtain⟨u,hu,rv⟩:=r.get ha;have hp:ps[i]?=some y:=by
   rw[<-S.pre,List.getElem?_take_of_lt (by lia)];exact h1
  have ndP:ps.Nodup:=by rw[<-S.pre];exact S.nd.sublist (List.take_sublist _ _)
  refine⟨u,rv,?_⟩;rcases S.par y (pj hp)with k | k
  ·exact .inl ⟨k,sV ndP hp hu k⟩
  ·obtain⟨c,e⟩:=xj k;refine .inr ⟨.inl k,c,e,?_⟩;have q:=x.cell y c e;rw[sW ndP hp hu (by show scope.names.lookup y≠_;rw[k];decide)]at q
   exact q
 ·exact e0.hok.fresh (pU (x.above y c (fB h)))
 ·unfold start;show _=N.length;rw[bO,aU,jh]
  lia
def Mq{CX:CO}{P:Program}{w:World}{K:W.Frag}{mg:Str->Option Value}{base:Heap}{k:Nat}{f:Addr}{name qual:Str}{pq9:Arguments}{body:List Stmt}{scope:Scope}{dV kV doc pm cW ct oc:Value}{an od:Option Addr}
  {pZ:Array (Option Value)} {N ps:List Str} {sp:Sp} (lk:K.lookup f=some ⟨oc,od,.func (W.fnOf name qual pq9 body scope dV kV doc pm an cW ct),pZ⟩) (wI:W.codeIn K cW qual=true) (S:cM N ps scope)
  (len:∀vs H Q E,sp vs H Q E->vs.length=ps.length)
  (hbody:∀(A:Around) (aB:List Env) (s:Shared) (H:Hp) (vs:List V) (Q:VK) (E:XK),c7 k (A.deeper (envOfC qual scope s.heap.objs.size f cW))->sp vs H Q E ->
   ∃t,PSs (fq CX P w K mg base N qual scope f cW A aB s H E) body t/\t {nx:=λ_ H'=>Q .aL H',rt:=Q} (start N vs) H) :
  FnOk P w K mg base CX (k+1) f (W.fnOf name qual pq9 body scope dV kV doc pm an cW ct) ps sp:=by
 refine⟨len,λA aB s H args us vs Q E hr e0 hb r Mr=>?_⟩
 have hl:=len _ _ _ _ Mr;have KX:=e0.mod.kin.keeps λb o e=>(e0.bs b o e).1
 have lim:=e0.mod.nolimit.keeps λb o e=>(e0.bs b o e).1
 have S7:∀y∈ps.zip us,scope.names.lookup y.1=some .local\/(scope.names.lookup y.1=some .cell/\((cellsFrom (s.heap.objs.size+1) scope.names []).lookup y.1).isSome=true):=by
  rintro⟨n,v⟩ hy
  rcases S.par n (zD hy).1 with q | q
  ·grind
  ·exact .inr ⟨q,W.cellsFrom_some _ _ _ (.inl q)⟩
 refine codeAny_call_function hr.depth (KX _ _ lk) rfl S.co S.gen rfl (W.codeRec_of KX wI) (hb _ _ _ _ ?_);refine wpAny_newFunctionEnv_cells S.kind S7 λenv he s1 x=>?_
 subst he;refine⟨lim.keeps x.toInCall.keep,codeAny_func ?_⟩;obtain⟨t,ht,hq⟩:=hbody A aB s H vs Q E (hr.deeper _) Mr;have I:Inv (fq CX P w K mg base N qual scope f cW A aB s H E) [] (start N vs) H s1:=C9 S hr.hd e0 hl r x;refine jq (ht [] s1 (start N vs) H _ I hq) (λfl s' hs=>?_) λe s' hs=>hs
 have jc:∀{bG:St} {H':Hp} {v:V} {u:Value},Inv (fq CX P w K mg base N qual scope f cW A aB s H E) [] bG H' s'->RelV v u->Q v H'->CE aB P w H s Q u s' :=
  λ{bG H' v u} J rv q=>⟨v,H',J.os,J.bare,J.base,J.hok,rv,q⟩
 cases fl with
 | ret u =>
  obtain⟨v,bG,H',J,rv,q⟩:=hs;exact jc J rv q
 | next =>
  obtain⟨bG,H',J,q⟩:=hs;exact jc (v:=V.aL) J rfl q
 | brk =>
  obtain⟨_,_,_,q⟩:=hs;exact False.elim q
 | cont =>
  obtain⟨_,_,_,q⟩:=hs;exact False.elim q
section
variable {X:Cx} {x:Str} {p pos:Pos} {e:Expr} {es:List Expr} {t:TA} {id T:String} {r:List V->Hp->VK->Prop}
def X7(r:List V->Hp->VK->Prop)(t:TA):TE:=λσ H Q=>t σ H λvs H1=>r vs H1 Q
def qr(hc:kl X (.builtin id) r)(hg:Gl X x)(hm:X.mg x=none)(hv:bootBuiltins x=some (.builtin id))(ha:PA X (e::es) t)(hn:x≠"__name__":=by decide)(zO:(x==("__debug__":Str))=false:=by decide)
  (he:starEach (e::es) X.env=(false,eval e X.env)::starEach es X.env:=by rfl) (qa:(backTo pos (starEach es X.env)).any (·.1)=false:=by rfl):PE X (.Call (.Name x p) (e::es) [] pos) (X7 r t):=by
 intro ah s σ H Q I h;refine mU (ld_blt I hg hm hv ?_ hn zO);exact PyProof.Rows.callWith_builtin1 (thn (ha pos ah s σ H _ I h) (by rintro us s1 ⟨vs,H1,I1,r1,q1⟩;exact hc ah s1 σ H1 vs us Q I1 r1 q1)) he qa
def nz(hc:kl X (.type T) r)(hg:Gl X x)(hm:X.mg x=none)(hv:bootBuiltins x=some (.type T))(ha:PA X (e::es) t)(hn:x≠"__name__":=by decide)(zO:(x==("__debug__":Str))=false:=by decide)
  (he:starEach (e::es) X.env=(false,eval e X.env)::starEach es X.env:=by rfl) (qa:(backTo pos (starEach es X.env)).any (·.1)=false:=by rfl):PE X (.Call (.Name x p) (e::es) [] pos) (X7 r t):=by
 intro ah s σ H Q I h;refine mU (ld_blt I hg hm hv ?_ hn zO);exact kx (thn (ha pos ah s σ H _ I h) (by rintro us s1 ⟨vs,H1,I1,r1,q1⟩;exact hc ah s1 σ H1 vs us Q I1 r1 q1)) he qa
end
end L2
namespace HT
open PySem PyProof.Rows
section
variable {prog:Program} {w:World} {A:Around} {E:Value->Shared->Prop} {s:Shared}
def JE(ht:IsTup s.heap t vs.toArray)(hb:IsTup s.heap b ws.toArray)(hv:vs≠[])
  (h1:ws=[]->Q (.ref t) s) (h2:ws≠[]->Q (.ref s.heap.objs.size) {s with heap:=s.heap.push {cls:=.type "tuple",data:=.seq (vs++ws).toArray}})
  (hsz:vs.length+ws.length<=sizeLine):wpAny (model prog w) A (binaryOp .Add (.ref t) (.ref b)) Q E s:=by
 obtain⟨⟨cls,dd,data,sl⟩,ho,hc,n,hd⟩:=id ht;obtain⟨⟨X8,WC,S8,WD⟩,Ou,Ov,n2,hd2⟩:=id hb;simp only at hc hd Ov hd2;subst hc hd Ov hd2;have e:vs.toArray++ws.toArray=(vs++ws).toArray:=by simp
 by_cases hw:ws=[]
 ·exact concat_meets ⟨_,ho,rfl⟩ ⟨_,Ou,rfl⟩ zq seq_tuple_add yX yV (yQ _ _)
   (tuple_addW1 t b vs.toArray ws.toArray n n2 dd WC sl WD (by grind) (by simp[hw])) ⟨ho,Ou,h1 hw⟩
 ·refine concat_meets ⟨_,ho,rfl⟩ ⟨_,Ou,rfl⟩ zq seq_tuple_add yX yV (yQ _ _)
   (tuple_addW2 t b vs.toArray ws.toArray n n2 dd WC sl WD (by grind) (by grind) (by grind)) ⟨ho,Ou,?_⟩
  rw[e];exact h2 hw
noncomputable def d5(n d:Nat):Option Int->Nat
 | none=>d
 | some v=>if v<0 then(v+(n:Int)).toNat else min v.toNat n
def xk(n d:Nat):d5 n d none=d:=rfl
def oU(n d k:Nat):d5 n d (some (k:Int))=min k n:=by
 show(if(k:Int)<0 then((k:Int)+(n:Int)).toNat else min (k:Int).toNat n)=min k n
 rw[if_neg (by lia),kL]
def Ow(n d:Nat)(hd:d<=n)(o:Option Int):d5 n d o<=n:=by
 cases o with
 | none=>exact hd
 | some v =>
  show(if v<0 then(v+(n:Int)).toNat else min v.toNat n)<=n
  by_cases hv:v<0
  ·grind
  ·grind
def Bq(v:Int)(n d:Nat):(if v<0 then max (v+(n:Int)) 0 else min v (n:Int))=((d5 n d (some v):Nat):Int):=by
 show(if v<0 then max (v+(n:Int)) 0 else min v (n:Int))=(((if v<0 then(v+(n:Int)).toNat else min v.toNat n):Nat):Int)
 by_cases hv:v<0
 ·grind
 ·grind
def zZ(lo hi:Option Int)(n:Nat):Builtin.Slice.sliceAdjust lo hi 1 (n:Int)=(((d5 n 0 lo:Nat):Int),((d5 n n hi:Nat):Int)):=by
 have h1:¬(1<0):=by lia
 unfold Builtin.Slice.sliceAdjust;simp only[h1,cJ];refine Prod.ext ?_ ?_
 ·cases lo with
  | none=>rfl
  | some v=>exact Bq v n 0
 ·cases hi with
  | none=>rfl
  | some v=>exact Bq v n n
def z0(i j:Nat):Builtin.Slice.slicePlaces (i:Int) (j:Int) 1=j-i:=by
 unfold Builtin.Slice.slicePlaces;have h1:1>0:=by lia
 simp only[h1,eI,Int.ediv_one];split<;>lia
def qt(p:IsPart v o)(h:Q o s):wpAny (model prog w) A (Builtin.Slice.slicePartIndex v) Q E s:=by
 cases p with
 | none=>exact slicePart_none h
 | int i t=>exact slicePart_int h
def ik{vl vu:Value}{lo hi:Option Int}{n:Nat}{Q:Int×Int×Nat->Shared->Prop}(hs:s.heap.IsSliceOf sl vl vu .none)(pl:IsPart vl lo)(pu:IsPart vu hi)
  (h:Q (((d5 n 0 lo:Nat):Int),1,d5 n n hi-d5 n 0 lo) s):wpAny (model prog w) A (Builtin.Slice.sliceApplied (.ref sl) (pure (n:Int))) Q E s:=by
 obtain⟨os,IC,WE,S9⟩:=id hs;unfold Builtin.Slice.sliceApplied Builtin.Slice.sliceFields;refine ai (ai (cH IC S9 rfl (ai (cH IC S9 rfl (ai (cH IC S9 rfl (ar ?_)))))));refine ai (slicePart_none ?_);rw[if_neg (by decide)]
 refine ai (qt pl (ai (qt pu (ai (ar ?_)))));show wpAny _ _ (match Builtin.Slice.sliceAdjust lo hi 1 (n:Int)with | (lo,hi)=>pure (lo,(1:Int),Builtin.Slice.slicePlaces lo hi 1)) _ _ s
 rw[zZ lo hi n];show wpAny _ _ (pure (((d5 n 0 lo:Nat):Int),(1:Int),Builtin.Slice.slicePlaces ((d5 n 0 lo:Nat):Int) ((d5 n n hi:Nat):Int) 1)) _ _ s;rw[z0];exact ar h
def Fv(xs:Array Value)(i k:Nat):((List.range k).filterMap fun(m:Nat)=>xs[((i:Int)+(m:Int)*1).toNat]?).toArray=((xs.toList.drop i).take k).toArray:=by
 have e:(fun(m:Nat)=>xs[(i+(m:Int)*1).toNat]?)=λm=>xs[i+m]?:=by
  grind
 rw[e];have:=pick_run xs i k;rw[List.filterMap_map]at this;have e2:((λx=>xs[x]?) ∘ λx=>i+x)=λm=>xs[i+m]?:=rfl
 rw[e2]at this;rw[this]
def lQ{items:Array Value}{vl vu:Value}{lo hi:Option Int}{Q:Value->Shared->Prop}(ht:IsTup s.heap t items)(hs:s.heap.IsSliceOf sl vl vu .none)(pl:IsPart vl lo)(pu:IsPart vu hi)
  (hw:¬(d5 items.size 0 lo=0/\d5 items.size items.size hi=items.size))
  (h:Q (.ref s.heap.objs.size) {s with heap:=s.heap.push {cls:=.type "tuple",data:=.seq ((items.toList.drop (d5 items.size 0 lo)).take (d5 items.size items.size hi-d5 items.size 0 lo)).toArray}})
  (hsz:items.size<=sizeLine):wpAny (model prog w) A (getItem (.ref t) (.ref sl)) Q E s:=by
 have Br:sizeOk (.seq ((items.toList.drop (d5 items.size 0 lo)).take (d5 items.size items.size hi-d5 items.size 0 lo)).toArray):=by
  show((items.toList.drop (d5 items.size 0 lo)).take (d5 items.size items.size hi-d5 items.size 0 lo)).toArray.size<=sizeLine;rw[cC,kN,zm,pq]
  lia
 have hj:d5 items.size items.size hi<=items.size:=Ow _ _ (aF _) hi;obtain⟨os,IC,WE,S9⟩:=id hs;have hTs:s.TypeIs (.ref sl) "slice":=⟨os,IC,WE⟩;unfold getItem
 try with_reducible refine dU ?_
 first | refine ai (ar ?_) | skip
 refine ai (wpAny_sequenceKey ht.typeIs (by decide) ?_)
 refine ai (fZ ht.typeIs mR
  (fE mR ht.typeIs entry_tuple_getitem ?_ (args_tuple_getitem _ _)))
 show wpAny _ _ (Builtin.Tuple.tupleItemsOf (.ref t) >>= _) _ _ s;refine ai (tupleItemsOf_ ht ?_);refine ai (nc hTs ?_);rw[if_pos (by decide)]
 refine ai (ik hs pl pu ?_);have hno:¬((((d5 items.size 0 lo:Nat):Int)==0&&(1:Int)==1&&(d5 items.size items.size hi-d5 items.size 0 lo)==items.size)=true):=by
  grind
 show wpAny _ _ (if(((d5 items.size 0 lo:Nat):Int)==0&&(1:Int)==1&&(d5 items.size items.size hi-d5 items.size 0 lo)==items.size)=true then _ else _) _ _ s
 rw[if_neg hno,Fv]
 first
  | exact ai (m:=Builtin.Tuple.tupleExact _) (kJ (ar ⟨_,rfl,ar h⟩) Br)
  | exact ai (m:=Builtin.Tuple.tupleExact _) (kJ (ai (ar (ar ⟨_,rfl,ar h⟩))) Br)
  | exact ai (ai (m:=Builtin.Tuple.tupleExact _) (kJ (ar (ar ⟨_,rfl,ar h⟩)) Br))
  | exact ai (ai (m:=Builtin.Tuple.tupleExact _) (kJ (ar ⟨_,rfl,ar h⟩) Br))
end
end HT
namespace L2
open PySem PySem.Spec PyProof.Rows
abbrev TO:=St->Hp->(Option Int->Hp->Prop)->Prop
def PO(X:Cx)(e:Option Expr)(t:TO):Prop :=
 ∀(ah:List (Addr×Obj)) (s:Shared) (σ:St) (H:Hp) (Q:Option Int->Hp->Prop),Inv X ah σ H s->t σ H Q ->
  wpAny (model X.prog X.w) X.A (evalPart e X.env) (λu s'=>∃o H',Inv X ah σ H' s'/\IsPart u o/\Q o H') X.xe s
def JF:TO:=λ_ H Q=>Q none H
def Ta(t:TE):TO:=λσ H Q=>t σ H λx H1=>∃i,x=.int i/\Q (some i) H1
def Aa:∀{us:List Value},Vals (ns.map V.int) us->IntsAre us ns:=by
 induction ns with
 | nil=>intro us r;rw[di]at r;cases r;exact .nil
 | cons n ns ih =>
  intro us r;rw[aQ]at r;cases r with
  | cons r1 r2 =>
   obtain⟨t,e⟩:=r1;subst e;exact .cons n t (ih r2)
section
variable {X:Cx} {e:Expr} {te:TE} {lo hi:Option Expr} {tl th:TO} {pos p2:Pos}
def JG:PO X none JF:=by
 intro ah s σ H Q I h;rw[evalPart_none];exact ar ⟨none,H,I,.none,h⟩
def JH(h:PE X e te):PO X (some e) (Ta te):=by
 intro ah s σ H Q I hw;rw[evalPart_some];refine thn (h ah s σ H _ I hw) λu s1 ⟨x,H1,I1,r1,q1⟩=>?_
 obtain⟨i,rfl,q⟩:=q1;obtain⟨t,rfl⟩:=r1;exact⟨some i,H1,I1,.int i t,q⟩
def WG(X:Cx)(r:V->Option Int->Option Int->Hp->VK->Prop):Prop :=
 ∀(ah:List (Addr×Obj)) (s:Shared) (σ:St) (H:Hp) (x:V) (v vl vu:Value) (lo hi:Option Int) (sl:Addr) (Q:VK),Inv X ah σ H s->RelV x v->s.heap.IsSliceOf sl vl vu .none->IsPart vl lo->IsPart vu hi->r x lo hi H Q ->
  ∃T id,typeLookup (.type T) "__getitem__"=pure (some (.builtin id))/\s.TypeIs v T/\wpAny (model X.prog X.w) X.A (getItem v (.ref sl)) (EP X ah σ Q) X.xe s
def tSl(r:V->Option Int->Option Int->Hp->VK->Prop)(te:TE)(tl th:TO):TE:=λσ H Q=>te σ H λx H1=>tl σ H1 λl H2=>th σ H2 λu H3=>r x l u H3 Q
def Fw{r:V->Option Int->Option Int->Hp->VK->Prop}(hr:WG X r)(he:PE X e te)(hl:PO X lo tl)(hu:PO X hi th):PE X (.Subscript e (.Slice lo hi none p2) pos) (tSl r te tl th):=by
 intro ah s σ H Q I h;refine Subscript_ (thn (he ah s σ H _ I h) λv s1 ⟨x,H1,I1,r1,q1⟩=>?_)
 refine wpAny_Slice (thn (hl ah s1 σ H1 _ I1 q1) λvl s2 ⟨l,H2,I2,pl,q2⟩=>thn (hu ah s2 σ H2 _ I2 q2) λvu s3 ⟨u,H3,I3,pu,q3⟩=>?_)
 rw[evalPart_none];refine ar ?_;have I4:Inv X ah σ H3 {s3 with heap:=s3.heap.push {cls:=.type "slice",data:=.fields #[vl,vu,.none]}}:=I3.kept λb ob q=>aK _ q
 obtain⟨T,id,hT,ht,hg⟩:=hr ah {s3 with heap:=s3.heap.push {cls:=.type "slice",data:=.fields #[vl,vu,.none]}} σ H3 x v vl vu l u s3.heap.objs.size Q I4 r1 (Heap.IsSliceOf.new ..) pl pu q3
 show wpAny (model X.prog X.w) X.A (subscriptTail e (.Slice lo hi none p2) v (.ref s3.heap.objs.size)) (EP X ah σ Q) X.xe {s3 with heap:=s3.heap.push {cls:=.type "slice",data:=.fields #[vl,vu,.none]}}
 exact nj ht hT hg (by with_unfolding_all rfl)
def xl(xs:List V)(lo hi:Option Int):List V:=(xs.drop (HT.d5 xs.length 0 lo)).take (HT.d5 xs.length xs.length hi-HT.d5 xs.length 0 lo)
def nR(xs:List V)(lo hi:Option Int):(xl xs lo hi).length<=xs.length:=by
 unfold xl;rw[kN,zm]
 lia
def X9(K:W.Frag):V->Option Int->Option Int->Hp->VK->Prop:=λx lo hi H Q=>∃a xs,x=.ref a/\iC K H a xs /\
 ¬(HT.d5 xs.length 0 lo=0/\HT.d5 xs.length xs.length hi=xs.length)/\∀p,H p=none->Q (.ref p) (cU H p (.au (xl xs lo hi)))
def Ox:WG X (X9 X.K):=by
 intro ah s σ H x v vl vu lo hi sl Q I rx hs pl pu h;obtain⟨a,xs,rfl,hx,hw,q⟩:=h;cases rx;obtain⟨ax,r,ht,hz⟩:=I.tuple hx;have eW:ax.toArray.size=xs.length:=by rw[cC];exact r.length.symm
 refine⟨"tuple",_,mR.lookup,ht.typeIs,?_⟩;refine HT.lQ ht hs pl pu (by grind) ?_ (by grind)
 rw[eW];refine⟨.ref s.heap.objs.size,_,I.laid (λb ob q=>aK _ q) (aF _) ?_,rfl,q _ (I.hok.fresh (aF _))⟩
 exact⟨aY (nR xs lo hi) hz,_,(r.drop (HT.d5 xs.length 0 lo)).take (HT.d5 xs.length xs.length hi-HT.d5 xs.length 0 lo),n8.new _ _⟩
def Tb(K:W.Frag):R2:=λx y H Q=>∃a b xs ys,x=.ref a/\y=.ref b/\iC K H a xs/\iC K H b ys/\xs≠[]/\xs.length+ys.length<=sizeLine /\
 (ys=[]->Q (.ref a) H)/\(ys≠[]->∀p,H p=none->Q (.ref p) (cU H p (.au (xs++ys))))
def Vals.vf(r:Vals xs us):us=[]↔xs=[]:=by
 cases r with
 | nil=>simp
 | cons _ _=>simp
def JI:OpR X (binaryOp .Add) (Tb X.K):=by
 intro ah s σ H x y v u Q I rx ry h;obtain⟨a,b,xs,ys,rfl,rfl,ha,hb,hx,hz,q1,q2⟩:=h;cases rx;cases ry;obtain⟨ax,r1,p1,_⟩:=I.tuple ha;obtain⟨eK,r2,p2,_⟩:=I.tuple hb;refine HT.JE p1 p2 (λz=>hx (r1.vf.mp z)) (λz=>⟨.ref a,H,I,rfl,q1 (r2.vf.mp z)⟩) (λz=>?_) (by rw[<-r1.length,<-r2.length];exact hz)
 refine⟨.ref s.heap.objs.size,_,I.laid (λb ob q=>aK _ q) (aF _) ?_,rfl,q2 (λw=>z (r2.vf.mpr w)) _ (I.hok.fresh (aF _))⟩
 exact⟨by grind,_,r1.append r2,n8.new _ _⟩
end
noncomputable def Dc(n:Nat)(i:Int):Option Nat:=if 0<=i then(if i<n then some i.toNat else none)else if -(n:Int)<=i then some (i+n).toNat else none
def rV{α:Type}(xs:List α)(i:Int):Option α:=(Dc xs.length i).bind λj=>xs[j]?
def Bs(h:Dc n i=some j):seqIndex? i n=some j/\j<n /\ -(n:Int)<=i/\i<n:=by
 unfold Dc at h;by_cases h0:0<=i
 ·rw[if_pos h0]at h;by_cases h1:i<n
  ·rw[if_pos h1]at h;have e:=aX h;exact⟨by rw[seqIndex_of h0 h1,e],by lia,by lia,h1⟩
  ·grind
 ·rw[if_neg h0]at h;by_cases h1:-n<=i
  ·rw[if_pos h1]at h;have e:=aX h;exact⟨by rw[seqIndex_neg (by lia) h1,e],by lia,h1,by lia⟩
  ·grind
def vg{α:Type}{xs:List α}{i:Int}{v:α}(h:rV xs i=some v):∃j,seqIndex? i xs.length=some j/\xs[j]?=some v/\j<xs.length /\ -(xs.length:Int)<=i/\i<xs.length:=by
 unfold rV at h;cases e:Dc xs.length i with
 | none=>rw[e]at h;cases h
 | some j =>
  rw[e]at h;obtain⟨h1,h2,h3,h4⟩:=Bs e;exact⟨j,h1,h,h2,h3,h4⟩
def atI_nat{α:Type}{xs:List α}{j:Nat}{v:α}(h:xs[j]?=some v):rV xs (j:Int)=some v:=by
 have hj:=(dS.mp h).1;have e:Dc xs.length j=some j:=by
  unfold Dc;rw[if_pos (by lia),if_pos (by lia)];simp
 unfold rV;rw[e];exact h
def lR(b:Expr):Prop:=∀o i,subscripted b false o i=operate [o,i] (getItem o i)
def RL(X:Cx)(r:R2):Prop :=
 ∀(value slice:Expr) (ah:List (Addr×Obj)) (s:Shared) (σ:St) (H:Hp) (x y:V) (v u:Value) (Q:VK),Inv X ah σ H s->RelV x v->RelV y u->r x y H Q ->
  subscripted slice false v u=operate [v,u] (getItem v u)->wpAny (model X.prog X.w) X.A (subscriptTail value slice v u) (EP X ah σ Q) X.xe s
def MtR(X:Cx)(id:String)(r:V->List V->Hp->VK->Prop):Prop :=
 ∀(ah:List (Addr×Obj)) (s:Shared) (σ:St) (H:Hp) (x:V) (xs:List V) (v:Value) (us:List Value) (Q:VK),Inv X ah σ H s->RelV x v->Vals xs us->r x xs H Q ->
  wpAny (model X.prog X.w) X.A (call (.builtin id) (v::us)) (EP X ah σ Q) X.xe s
section
variable {X:Cx} {a b:Expr} {ta tb:TE} {pos:Pos}
def Fx(hr:RL X r)(ha:PE X a ta)(hb:PE X b tb)(hs:lR b):PE X (.Subscript a b pos) (SQ r ta tb):=by
 intro ah s σ H Q I h;exact Subscript_ (Oa ha hb I h λv u s2 x y H2 I2 rx ry q=>hr a b ah s2 σ H2 x y v u Q I2 rx ry q (hs _ _))
def Yb(K:W.Frag):R2:=λx y H Q=>∃p xs i v,x=.ref p/\y=.int i/\u6 K H p xs/\rV xs i=some v/\Q v H
def Yc(K:W.Frag):R2:=λx y H Q=>∃p xs i v,x=.ref p/\y=.int i/\iC K H p xs/\rV xs i=some v/\Q v H
def Yd:R2:=λx y H Q=>∃z i c,x=.str z/\y=.int i/\z.length<=sizeLine/\rV z.cps.toList i=some c/\Q (.str ⟨#[c]⟩) H
def JJ:RL X (Yb X.K):=by
 intro value slice ah s σ H x y v u Q I rx ry h hs;obtain⟨p,xs,i,z,rfl,rfl,hq,he,q⟩:=h;cases rx;obtain⟨t,rfl⟩:=ry;obtain⟨ax,r,pl,hz⟩:=I.list hq;obtain⟨j,h1,h2,h3,h4,h5⟩:=vg he;obtain⟨w,ew,JK⟩:=r.get h2;have hl:=r.length;have hn:=kY;have jc:EP X ah σ Q w s:=⟨z,H,I,JK,q⟩;by_cases h0:0<=i
 ·have hj:i.toNat=j:=by
   rw[seqIndex_of h0 h5]at h1;exact aX h1
  exact item_listR pl.isList h0 (by lia) (by grind) jc hs
 ·have hj:(i+(ax.toArray.size:Int)).toNat=j:=by
   rw[seqIndex_neg (by lia) h4]at h1
   rw[cC,<-hl];exact aX h1
  exact subscriptTail_builtinR pl.isList.typeIs slot_list_getitem.lookup
   (wpAny_getItem_list_neg pl.isList (by lia) (by grind) (by lia) (by grind) ⟨rfl,jc⟩) hs
def Oy:RL X (Yc X.K):=by
 intro value slice ah s σ H x y v u Q I rx ry h hs;obtain⟨p,xs,i,z,rfl,rfl,hq,he,q⟩:=h;cases rx;obtain⟨t,rfl⟩:=ry;obtain⟨ax,r,pl,hz⟩:=I.tuple hq;obtain⟨j,h1,h2,h3,h4,h5⟩:=vg he;obtain⟨w,ew,JK⟩:=r.get h2;have hl:=r.length;have hn:=kY;have jc:EP X ah σ Q w s:=⟨z,H,I,JK,q⟩;exact subscriptTail_builtinR pl.typeIs slot_tuple_getitem.lookup
  (getItem_tuple pl (by lia) (by lia) (by rw[cC,<-hl];exact h1) (by grind) ⟨rfl,jc⟩) hs
def Oz:RL X Yd:=by
 intro value slice ah s σ H x y v u Q I rx ry h hs;obtain⟨z,i,c,rfl,rfl,hz,he,q⟩:=h;obtain⟨t,rfl⟩:=rx;obtain⟨t',rfl⟩:=ry;obtain⟨j,h1,h2,h3,h4,h5⟩:=vg he;have hl:z.cps.toList.length=z.length:=by simp[Str.length]
 rw[hl]at h1 h4 h5;have hn:=kY;exact nj (typeIs_str s z t) slot_str_getitem.lookup (getItem_str (by
  grind) (by grind) ⟨.str ⟨#[c]⟩,H,I.tok _,⟨_,rfl⟩,q⟩) hs
def Ab(ax:List Value)(n j:Nat)(u:Value):Obj.mapSeq (·.setIfInBounds j u) {cls:=.type "list",data:=.seq ax.toArray n}={cls:=.type "list",data:=.seq (ax.set j u).toArray n}:=by
 simp[Obj.mapSeq]
def Inv.lst{ah:List (Addr×Obj)}{σ:St}{H:Hp}{s:Shared}{p:Addr}{xs:List V}(I:Inv X ah σ H s)(h:H p=some (.lst xs)) :
  ∃(ax:List Value) (n:Nat),Vals xs ax/\s.heap.get? p=some {cls:=.type "list",data:=.seq ax.toArray n}/\xs.length<=sizeLine:=by
 obtain⟨z,ax,n,r,e⟩:=I.hok p _ h;exact⟨ax,n,r,e,z⟩
def Inv.OA{ah:List (Addr×Obj)}{σ:St}{H:Hp}{s:Shared}{p:Addr}{xs ys:List V}{ax its':List Value}{n n':Nat}{f:Obj->Obj}(I:Inv X ah σ H s)(h:H p=some (.lst xs))
  (ho:s.heap.get? p=some {cls:=.type "list",data:=.seq ax.toArray n}) (hf:f {cls:=.type "list",data:=.seq ax.toArray n}={cls:=.type "list",data:=.seq its'.toArray n'}) (r:Vals ys its') (hz:ys.length<=sizeLine) (t:Nat) :
  Inv X ah σ (cU H p (.lst ys)) {s with heap:=s.heap.update p f,toks:=t}:=by
 have e:(s.heap.update p f).get? p=some {cls:=.type "list",data:=.seq its'.toArray n'}:=by
  rw[mS f ho (by rw[hf]<;>rfl),hf]
 refine I.write (by rw[h];trivial) (.inl rfl) (λb u hb q=>(jg _ _ (bU hb)).trans q) ⟨_,e⟩ ?_
 exact⟨hz,its',n',r,e⟩
def Tc:V->V->V->Hp->(Hp->Prop)->Prop:=λo i v H Q=>∃p xs k j,o=.ref p/\i=.int k/\H p=some (.lst xs)/\Dc xs.length k=some j/\Q (cU H p (.lst (xs.set j v)))
def Fy:Fb X Tc:=by
 intro ah s σ H o i v ov iv u Q I ro ri rv h;obtain⟨p,xs,k,j,rfl,rfl,hp,hj,q⟩:=h;cases ro;obtain⟨t,rfl⟩:=ri;obtain⟨ax,n,r,ho,hz⟩:=I.lst hp;obtain⟨h1,h2,h3,h4⟩:=Bs hj;have hl:=r.length;have hn:=kY;have I':Inv X ah σ (cU H p (.lst (xs.set j v))) {s with heap:=s.heap.update p (Obj.mapSeq (·.setIfInBounds j u))} :=
  I.OA hp ho (Ab ax n j u) (r.set rv j) (by grind) s.toks
 by_cases h0:0<=k
 ·have hk:k.toNat=j:=by
   rw[seqIndex_of h0 h4]at h1;exact aX h1
  exact W.ki_setAt ho h0 (by lia) (by grind) (by grind)
 ·have hk:(k+(ax.toArray.size:Int)).toNat=j:=by
   rw[seqIndex_neg (by lia) h3]at h1
   rw[cC,<-hl];exact aX h1
  exact W.ki_setBack ho (by lia) (by grind) (by lia) (by grind)
def vh(lo hi:Option Int)(n:Nat):(sliceBounds lo hi none n).1=((HT.d5 n 0 lo:Nat):Int)/\(sliceBounds lo hi none n).2.1=((HT.d5 n n hi:Nat):Int)/\(sliceBounds lo hi none n).2.2=1:=by
 refine⟨?_,?_,rfl⟩
 ·cases lo with
  | none=>simp[sliceBounds,HT.d5]
  | some i =>
   simp only[sliceBounds,HT.d5,zt,show 1>0 by decide,eI]
   by_cases h:i<0
   ·grind
   ·grind
 ·cases hi with
  | none=>simp[sliceBounds,HT.d5]
  | some i =>
   simp only[sliceBounds,HT.d5,zt,show 1>0 by decide,eI]
   by_cases h:i<0
   ·grind
   ·grind
def sg(ax:List Value)(lo hi:Option Int):slicePick ax.toArray lo hi none=((ax.drop (HT.d5 ax.length 0 lo)).take (HT.d5 ax.length ax.length hi-HT.d5 ax.length 0 lo)).toArray:=by
 obtain⟨h1,h2,h3⟩:=vh lo hi ax.toArray.size;unfold slicePick;rw[h1,h2,h3];simp only[sliceRange_one,pick_run,cC]<;>rfl
def Ye(K:W.Frag):V->Option Int->Option Int->Hp->VK->Prop:=λx lo hi H Q=>∃a xs,x=.ref a/\u6 K H a xs/\∀p,H p=none->Q (.ref p) (cU H p (.lst (xl xs lo hi)))
def JL:WG X (Ye X.K):=by
 intro ah s σ H x v vl vu lo hi sl Q I rx hs pl pu h;obtain⟨a,xs,rfl,hx,q⟩:=h;cases rx;obtain⟨ax,r,ht,hz⟩:=I.list hx;have eW:=r.length;refine⟨"list",_,slot_list_getitem.lookup,ht.isList.typeIs,?_⟩;refine wpAny_getItem_list_slice ht.isList hs pl pu .none (by simp) ?_ (by grind)
 rw[sg,<-eW];refine⟨.ref s.heap.objs.size,_,I.laid (λb ob q=>aK _ q) (aF _) ?_,rfl,q _ (I.hok.fresh (aF _))⟩
 exact⟨aY (nR xs lo hi) hz,_,0,(r.drop (HT.d5 xs.length 0 lo)).take (HT.d5 xs.length xs.length hi-HT.d5 xs.length 0 lo),bL _ rfl⟩
def lS:kl X (.builtin "len") (λxs H Q=>∃p ys,xs=[.ref p]/\(u6 X.K H p ys\/iC X.K H p ys)/\Q (.int ys.length) H):=by
 intro ah s σ H xs us Q I r h;obtain⟨p,ys,rfl,hq,q⟩:=h;obtain⟨u,rfl,rx⟩:=km r;cases rx;have hn:=kY;rcases hq with hq | hq
 ·obtain⟨ax,r',pl,hz⟩:=I.list hq;have eW:=r'.length;exact Calls.call_len_list pl.isList (by grind) ⟨.int ys.length,H,I.tok _,⟨s.toks+1,by grind⟩,q⟩
 ·obtain⟨ax,r',pl,hz⟩:=I.tuple hq;have eW:=r'.length;exact len_tuple pl (by grind) ⟨.int ys.length,H,I.tok _,⟨s.toks+1,by grind⟩,q⟩
def vi:kl X (.builtin "len") (λxs H Q=>∃z,xs=[.str z]/\z.length<=sizeLine/\Q (.int z.length) H):=by
 intro ah s σ H xs us Q I r h;obtain⟨z,rfl,hz,q⟩:=h;obtain⟨u,rfl,t,rfl⟩:=km r;have hn:=kY;exact len_str (by lia) ⟨.int z.length,H,I.tok _,⟨_,rfl⟩,q⟩
def ko:kl X (.type "tuple") (λxs H Q=>∃p ys,xs=[.ref p]/\((u6 X.K H p ys/\∀l,H l=none->Q (.ref l) (cU H l (.au ys)))\/(iC X.K H p ys/\Q (.ref p) H))):=by
 intro ah s σ H xs us Q I r h;obtain⟨p,ys,rfl,h⟩:=h;obtain⟨u,rfl,rx⟩:=km r;cases rx;rcases h with⟨hq,q⟩ | ⟨hq,q⟩
 ·obtain⟨ax,r',pl,hz⟩:=I.list hq;have eW:=r'.length;refine call_tuple_list pl.isList (λh' kp=>?_) (by grind)
  have I1:=I.kept (t':=s.toks) kp;have I2:Inv X ah σ (cU H h'.objs.size (.au ys)) {s with heap:=h'.push {cls:=.type "tuple",data:=.seq ax.toArray}} :=
   I1.laid (λb o e=>aK _ e) (aF _) (⟨hz,ax,r',n8.new _ _⟩)
  exact⟨.ref h'.objs.size,_,I2,rfl,q _ (I1.hok.fresh (aF _))⟩
 ·obtain⟨ax,r',pl,hz⟩:=I.tuple hq;exact call_tuple_same pl ⟨.ref p,H,I,rfl,q⟩
def tyV(K:W.Frag)(T:String)(x:V)(H:Hp):Prop:=match x with
 | .str _=>T="str"
 | .int _=>T="int"
 | .ref p=>(T="list"/\∃xs,u6 K H p xs)\/(T="tuple"/\∃o,K.lookup p=some o/\o.cls=.type "tuple"/\o.dict=none) \/
   (T="dict"/\((∃kvs,H p=some (.dK kvs))\/∃kvs,H p=some (.dT kvs)))\/(T="set"/\∃S n,H p=some (.set S n))
 | _=>False
def FA{ah:List (Addr×Obj)}{σ:St}{H:Hp}{s:Shared}{T:String}{x:V}{v:Value}(I:Inv X ah σ H s)(r:RelV x v)(ty:tyV X.K T x H) :
  s.TypeIs v T/\∀a,v=.ref a->∃ob,s.heap.get? a=some ob/\ob.dict=none:=by
 cases x with
 | str z =>
  obtain⟨t,rfl⟩:=r;cases(ty);exact⟨typeIs_str s z t,λ_ e=>nomatch e⟩
 | int i =>
  obtain⟨t,rfl⟩:=r;cases(ty);exact⟨pX s i t,λ_ e=>nomatch e⟩
 | ref p =>
  cases r;rcases ty with⟨rfl,xs,hq⟩ | ⟨rfl,o,hk,hc,hd⟩ | ⟨rfl,hk⟩ | ⟨rfl,S,n,hk⟩
  ·obtain⟨ax,_,pl,_⟩:=I.list hq;refine⟨pl.isList.typeIs,λa e=>?_⟩
   cases e;obtain⟨o,n,e,c,hd,_⟩:=pl;exact⟨o,e,hd⟩
  ·refine⟨⟨o,I.og p o hk,hc⟩,λa e=>?_⟩
   cases e;exact⟨o,I.og _ o hk,hd⟩
  ·have z:∃o,s.heap.get? p=some o/\o.ExactDict:=by
    rcases hk with⟨kvs,hk⟩ | ⟨kvs,hk⟩
    ·obtain⟨_,_,_,_,o,_,_,e,ex,_⟩:=I.hok p _ hk;exact⟨o,e,ex⟩
    ·obtain⟨_,_,o,_,_,e,ex,_⟩:=(I.hok p _ hk);exact⟨o,e,ex⟩
   obtain⟨o,e,ex⟩:=z;refine⟨⟨o,e,ex.1⟩,λa e2=>?_⟩
   cases e2;exact⟨o,e,ex.2.1⟩
  ·obtain⟨o,_,_,_,e,ex,_⟩:=I.hok p _ hk;refine⟨⟨o,e,ex.1⟩,λa e2=>?_⟩
   cases e2;exact⟨o,e,ex.2.1⟩
 | _=>exact False.elim ty
def Td(K:W.Frag)(T:String)(r:V->List V->Hp->VK->Prop)(to:TE):TE:=λσ H Q=>to σ H λx H1=>tyV K T x H1/\r x [] H1 Q
def tBM(K:W.Frag)(T:String)(r:V->List V->Hp->VK->Prop)(to:TE)(t:TA):TE:=λσ H Q=>to σ H λx H1=>tyV K T x H1/\t σ H1 λxs H2=>r x xs H2 Q
variable {o e:Expr} {es:List Expr} {to:TE} {t:TA} {name:Str} {eP iG:Pos} {T id:String} {r:V->List V->Hp->VK->Prop}
def OB(pa:PlainAttrs T)(slot:Slot T name id)(Yg:typeOf (.builtin id)=pure (.type "method_descriptor"))(hm:MtR X id r)(ho:PE X o to)
  (lU:attributeBase o name X.env (eval o X.env)=eval o X.env:=by rfl) (lV:(eP.endLine==iG.line)=true:=by rfl):PE X (.Call (.Attribute o name eP) [] [] iG) (Td X.K T r to):=by
 intro ah s σ H Q I h;refine wpAny_Call_method0_late lU lV (thn (ho ah s σ H _ I h) λv s1 z9=>?_)
 obtain⟨x,H1,I1,r1,ty,q1⟩:=z9;obtain⟨h1,h2⟩:=FA I1 r1 ty;exact⟨T,id,pa,slot,Yg,h1,h2,Calls.callWith_builtin rfl (PySem.evalArgs_none (hm ah s1 σ H1 x [] v [] Q I1 r1 .nil q1))⟩
def Ms(pa:PlainAttrs T)(slot:Slot T name id)(Yg:typeOf (.builtin id)=pure (.type "method_descriptor"))(hm:MtR X id r)(ho:PE X o to)(ha:PA X (e::es) t)
  (lU:attributeBase o name X.env (eval o X.env)=eval o X.env:=by rfl)
  (JM:((backTo iG (starEach (e::es) X.env)).all (λx=>!x.1)&&(backToKw iG (keywordEach [] X.env)).all (λx=>x.1.isSome)
   && decide ((e::es).length+([]:List Keyword).length+(if([]:List Keyword).isEmpty then 0 else 1)<30))=true:=by rfl)
  (lV:(eP.endLine==iG.line)=true:=by rfl) (hs:starEach (e::es) X.env=(false,eval e X.env)::starEach es X.env:=by rfl) (Yh:(backTo iG (starEach es X.env)).any (·.1)=false:=by rfl) :
  PE X (.Call (.Attribute o name eP) (e::es) [] iG) (tBM X.K T r to t):=by
 intro ah s σ H Q I h;refine wpAny_Call_method_late lU JM lV rfl (thn (ho ah s σ H _ I h) λv s1 z9=>?_)
 obtain⟨x,H1,I1,r1,ty,q1⟩:=z9;obtain⟨h1,h2⟩:=FA I1 r1 ty;refine⟨T,id,pa,slot,Yg,h1,h2,?_⟩;have hA:=ha iG ah s1 σ H1 _ I1 q1;rw[hs]at hA ⊢;refine Calls.callWith_builtin (by grind) (Calls.evalArgs_plain ?_)
 exact thn hA (by rintro us s2 ⟨vs,H2,I2,r2,q2⟩;exact hm ah s2 σ H2 x vs v us Q I2 r1 r2 q2)
end
def Yi(X:Cx)(id:String)(r:V->List V->Hp->VK->Prop):Prop :=
 ∀(ah:List (Addr×Obj)) (s:Shared) (σ:St) (H:Hp) (x:V) (xs:List V) (v:Value) (us:List Value) (Q:VK),Inv X ah σ H s->RelV x v->Vals xs us->r x xs H Q ->
  wpAny (model X.prog X.w) X.A (call (.builtin id) (v::us)) (EP X ah σ Q) X.xe s
theorem Vals.one:∀{x:V} {us:List Value},Vals [x] us->∃u,us=[u]/\RelV x u
 | _,_,.cons r .nil=>⟨_,rfl,r⟩
def Vals.two{x y:V}{us:List Value}(h:Vals [x,y] us):∃u v,us=[u,v]/\RelV x u/\RelV y v:=by
 cases h with
 | cons r h=>cases h with
  | cons q h=>cases h;exact⟨_,_,rfl,r,q⟩
theorem Vals.zero:∀{us:List Value},Vals [] us->us=[]
 | _,.nil=>rfl
section
variable {X:Cx} {ah:List (Addr×Obj)} {σ:St} {H:Hp} {s:Shared} {l b:Addr} {xs ys zs:List V}
def Inv.OC{ax its':List Value}{n:Nat}{f:Array Value->Array Value}{t':Nat}(I:Inv X ah σ H s)(hH:H l=some (.lst xs))
  (e:s.heap.get? l=some {cls:=.type "list",data:=.seq ax.toArray n}) (hf:f ax.toArray=its'.toArray) (hv:Vals ys its') (hz:ys.length<=sizeLine) :
  Inv X ah σ (cU H l (.lst ys)) {s with heap:=s.heap.update l (Obj.mapSeq f),toks:=t'}:=by
 have q:=PySem.IsL.update e f;rw[hf]at q;refine I.write (by rw[hH];exact trivial) (.inl rfl) (λb' u hb hu=>(jg s.heap (Obj.mapSeq f) (bU hb)).trans hu) ⟨_,q⟩ ?_
 exact⟨hz,its',_,hv,q⟩
def Inv.OD(I:Inv X ah σ H s)(hv:Vals ys ax)(hz:ys.length<=sizeLine) :
  Inv X ah σ (cU H s.heap.objs.size (.lst ys)) {s with heap:=s.heap.push {cls:=.type "list",data:=.seq ax.toArray},toks:=t'} :=
 I.laid (λ_ _ q=>aK _ q) (aF _) ⟨hz,ax,0,hv,bL _ rfl⟩
def Inv.fresh(I:Inv X ah σ H s):H s.heap.objs.size=none:=I.hok.fresh (aF _)
def Inv.dN(I:Inv X ah σ H s)(hH:H l=some (.lst xs)):xs.length<=sizeLine/\∃(ax:List Value) (n:Nat),Vals xs ax/\xs.length=ax.length/\s.heap.get? l=some {cls:=.type "list",data:=.seq ax.toArray n}:=by
 obtain⟨z,ax,n,r,e⟩:=I.hok l _ hH;exact⟨z,ax,n,r,r.length,e⟩
def xm(h:n<=sizeLine):Builtin.List.listTooLong n=false:=by
 unfold Builtin.List.listTooLong;exact dz (by lia)
end
section
variable {X:Cx}
def Bt:V->List V->Hp->VK->Prop:=λx vs H Q=>∃l xs y,x=.ref l/\vs=[y]/\H l=some (.lst xs)/\xs.length<sizeLine/\Q .aL (cU H l (.lst (xs++[y])))
def Dd:Yi X "list.append" Bt:=by
 intro ah s σ H x vs v us Q I rx rv h;obtain⟨l,xs,y,rfl,rfl,hH,hz,q⟩:=h;cases rx;obtain⟨u,rfl,ru⟩:=rv.one;obtain⟨z,ax,n,r,hl,e⟩:=I.dN hH;refine gf F.slot_list_append ⟨_,e,rfl⟩ F.entry_list_append (F.args_list_append_2 _ _) (PySem.list_append l ax.toArray n u (by grind)) ⟨e,?_⟩
 refine⟨.aL,_,I.OC hH e (by simp) (r.append (.cons ru .nil)) ?_,rfl,q⟩
 rw[bO,List.length_singleton]
 lia
end
end L2
namespace Att
open PySem PySem.W PySem.Calls PyProof.Rows
def oj:∀(ns:List Int) (vs:List Value),WellAll P h vs (ns.map WData.int)->IntsAre vs ns:=by
 intro ns;induction ns with
 | nil =>
  intro vs w;rw[di]at w;cases w;exact .nil
 | cons n ns ih =>
  intro vs w;rw[aQ]at w;cases w with
  | cons a b =>
   cases a;exact .cons _ _ (ih _ b)
def De{l:OpenLaw}(hn:l.most=some n) 
  (JN:l.row.toRowW.claim.pre args=true) (Yj:WellAll P h Te args) :
  ∃a vs ns,Te=[Value.ref a]/\args=[WData.list (ns.map WData.int)]/\h.get? a=some {cls:=.type "list",data:=.seq vs.toArray}/\IntsAre vs ns/\ns.length<=n:=by
 have hsh:=(pre_splitW JN).1;have hc:l.pre.holds [] {args:=args}=true:=(pre_splitW JN).2
 obtain⟨d,r,rfl,h1,h2⟩:=hasAllW_cons hsh;obtain rfl:=hasAllW_nil h2;obtain⟨xs,rfl,h3⟩:=hasW_list h1;obtain⟨ns,rfl⟩:=items_int h3;have eW:ns.length<=n:=by
  unfold OpenLaw.pre at hc;have h4:(WTm.not (.lt (.lit (.int n)) (.len (.arg 0)))).holds [] {args:=[.list (ns.map .int)]}=true:=by
   have h4:=(holds_andW hc).1;rw[hn]at h4;exact h4
  have h5:=condW_of h4 (w_not (w_lt w_lit (w_len_list (w_arg rfl))));rw[aU]at h5;refine zw λq=>?_
  have q':n<(ns.length:Nat):=by lia
  first
   | (rw[eS q']at h5;exact absurd h5 (by decide))
   | (simp at h5;lia)
 cases Yj with
 | cons w1 w2 =>
  cases w2;cases w1 with
  | list ho hall=>exact⟨_,_,ns,rfl,rfl,ho,oj ns _ hall,eW⟩
def Df(l:OpenLaw)(args:List WData):l.row.toRowW.claim.post args (.bool true) args=true :=
 postW_of
  (show WShape.has [] (.bool true) .bool=true by first | rfl | decide | simp[WShape.has,WShape.arms,WShape.armsAll])
  (w_eq_bool (w_res rfl) w_lit) rfl
def xn{l:OpenLaw}{n:Nat}{loose:List Str}{XP:(Str->Option Value)->Heap->Prop}{YP:World->Heap->Prop}{d:DefRec}
  (hn:l.most=some n) (Ss:d.params.defaults=[])
  (call:∀(w:World) (s₀ s₁:Shared) (mg mb:Str->Option Value) (fa:Addr) (o:Obj) (pm cd doc:Value) (a:Addr) (vs:List Value) (ns:List Int),
   Ground q loose [] XP w s₀ mg mb s₁.heap->YP w s₁.heap ->
   s₁.heap.get? fa=some o->o.data=.func (docDef d.name d.params d.body d.scope pm cd doc)->s₁.heap.CodeRec cd d.name->mg d.name=some (.ref fa) ->
   s₁.heap.get? a=some {cls:=.type "list",data:=.seq vs.toArray}->IntsAre vs ns->ns.length<=n->s₁.gens=#[] ->
   codeAny (model l.prog w) callerA (.call (.ref fa) ⟨[.ref a],[]⟩) (λr s'=>r=.ok (.ret (.bool true))/\OldK s₁.heap s'.heap/\s'.os=s₁.os/\AllBare s'.gens) s₁) :
  WalkO q loose XP YP l.row.toRowW d [] (λf vs=>PySem.call f vs):=by
 intro w s₀ s₁ mg mb G Y fa o pm cd doc dV kV ho hd wI hD RM hg args Te as JN acx En Yj hlo;obtain rfl:dV=.none:=Dflts.none hD Ss;obtain rfl:kV=.none:=Dflts.noKw hD;obtain⟨a,vs,ns,rfl,rfl,FC,FD,eW⟩:=De hn JN Yj;refine enter_call (pT (call w s₀ s₁ mg mb fa o pm cd doc a vs ns G Y ho (fd_plain hd) wI RM FC FD eW hg) λr s' hq=>?_)
 obtain⟨rfl,h2,h3,h4⟩:=hq;exact⟨.inl ⟨.bool true,.bool true,[],rfl,λ_=>rfl,.bool true,Df l _,λ_=>⟨List.Pairwise.nil,λ_ hm=>(nomatch hm)⟩⟩,h2,h3,h4⟩
end Att
namespace L2
open PySem PySem.Spec PyProof.Rows
theorem sX:∀{vs:List Value} {ns:List Int},IntsAre vs ns->Vals (ns.map V.int) vs
 | _,_,.nil=>.nil
 | _,_,.cons n t h=>.cons ⟨t,rfl⟩ (sX h)
def Dg{P:Program}{w:World}{K:W.Frag}{mg mb:Str->Option Value}{CX:CO}{k:Nat}{fa a:Addr}{fd:FuncData}{x:Str}{sp:Sp}{s₁:Shared}{vs:List Value}{ns:List Int}{tabs:List (Addr×Str)}
  (KX:K.In s₁.heap) (Mt:s₁.heap.Ns mainGlobals mg) (hb:s₁.heap.Ns builtinsNs mb) (RN:∀x:Str,x≠"__name__"->mb x=bootBuiltins x) (Ad:s₁.heap.NoLimit) (hg:s₁.gens=#[])
  (hT:∀b q,tabs.lookup b=some q->s₁.heap.get? b=some {cls:=.none,data:=.fields #[]}/\isCodeTable s₁.heap b/\K.lookup b=none) (hTI:∀H:Hp,(∀b q,tabs.lookup b=some q->H b=some (.zE q))->qd K H)
  (ha:s₁.heap.get? a=some {cls:=.type "list",data:=.seq vs.toArray}) (hi:IntsAre vs ns) (hl:ns.length<=sizeLine) (hr:c7 k callerA)
  (F:∀base:Heap,K.In base->base.Ns mainGlobals mg->FnOk P w K mg base CX k fa fd [x] sp) (Tf:∀(s:Shared) (u:Value),BindsTo s fd ⟨[u],[]⟩ [(x,u)])
  (Mr:∀H:Hp,iR K H a (ns.map V.int)->sp [.ref a] H (λv _=>v=.bl true) λ_ _ _=>False) (hCX:∀H e s',CX [] H s₁ (λ_ _ _=>False) e s'->False) :
  codeAny (model P w) callerA (.call (.ref fa) ⟨[.ref a],[]⟩) (λr s'=>r=.ok (.ret (.bool true))/\OldK s₁.heap s'.heap/\s'.os=s₁.os/\AllBare s'.gens) s₁:=by
 have rv:=sX hi;have jw:=hi.length
 let oa:Obj:={cls:=.type "list",data:=.seq vs.toArray}
 let H:Hp:=λb=>if b=a/\K.lookup a=none then some (.wU oa (.lst (ns.map V.int)))else(tabs.lookup b).map HO.zE
 have Yk:∀b,H b=if b=a/\K.lookup a=none then some (.wU oa (.lst (ns.map V.int)))else(tabs.lookup b).map HO.zE:=λ_=>rfl
 have hHt:∀b q,tabs.lookup b=some q->H b=some (.zE q):=λb q e=>by
  grind
 have hH:∀b u,H b=some u->(b=a/\K.lookup a=none/\u=.wU oa (.lst (ns.map V.int)))\/∃q,tabs.lookup b=some q/\u=.zE q:=λb u e=>by
  rw[Yk]at e;by_cases h:b=a/\K.lookup a=none
  ·grind
  ·rw[if_neg h]at e;cases z:tabs.lookup b with
   | none=>rw[z]at e;cases e
   | some q=>rw[z]at e;cases e;exact .inr ⟨q,rfl,rfl⟩
 have hS:iR K H a (ns.map V.int):=by
  cases hk:K.lookup a with
  | some o =>
   have e:=KX a o hk;rw[ha]at e;cases e;exact .inr ⟨vs,_,hk,by grind,rv⟩
  | none=>exact .inl (.inr ⟨oa,by grind⟩)
 have hok:lG P w H s₁.heap:=λb u e=>by
  rcases hH b u e with⟨rfl,_,rfl⟩ | ⟨q,hq,rfl⟩
  ·exact⟨ha,by grind,vs,_,rv,ha⟩
  ·exact⟨#[],(hT b q hq).1,trivial,λpos cv z=>by cases z⟩
 have noD:∀{b:Addr} {o:Obj} {es:Array DictEntry} {ep:Nat},s₁.heap.get? b=some o->o.data=.dict es ep->H b=none:=λ{b o es ep} e d=>by
  cases q:H b with
  | none=>rfl
  | some u =>
   rcases hH b u q with⟨rfl,_,_⟩ | ⟨t,ht,_⟩
   ·grind
   ·grind
 have WH:∀{b:Addr} {m:Str->Option Value},s₁.heap.Ns b m->(w6 s₁.heap H).Ns b m:=λ{b m} ⟨o,es,ep,e,d,r⟩=>⟨o,es,ep,hidT_get e (noD e d),d,r⟩
 have hKb:K.In (w6 s₁.heap H):=λb o e=>hidT_get (KX b o e) (by
  cases q:H b with
  | none=>rfl
  | some u =>
   rcases hH b u q with⟨rfl,z,_⟩ | ⟨t,ht,_⟩
   ·grind
   ·rw[(hT b t ht).2.2]at e;cases e)
 have hM:Mod K mg (w6 s₁.heap H):=⟨hKb,WH Mt,⟨mb,WH hb,RN⟩,let ⟨mc,h1,h2⟩:=Ad;⟨mc,WH h1,h2⟩⟩
 have e0:Env0 P w K mg (w6 s₁.heap H) callerA [] s₁ H:=⟨rfl,hM,λb o e=>of_hidT e,jo (C1 _ _),trivial,λb hb=>absurd (show b∈([]:List Addr)from hb) (by simp),hok,.of_eq hg,hTI H hHt⟩
 refine pT ((F _ hKb (WH Mt)).run callerA [] s₁ H ⟨[.ref a],[]⟩ [.ref a] [.ref a] _ _ hr e0 (Tf s₁ (.ref a)) (.cons rfl .nil) (Mr H hS)) λr s' h=>?_
 cases r with
 | error e=>exact(hCX H e s' h).elim
 | ok fl =>
  cases fl with
  | next=>exact False.elim h
  | brk=>exact False.elim h
  | cont=>exact False.elim h
  | ret u =>
   obtain⟨v,H',os,bare,un,Th,r',q⟩:=h;have q':=q;subst q';obtain rfl:u=Value.bool true:=r';have noF:∀b:Addr,b∉lN []:=λb z=>absurd (show b∈([]:List Addr)from z) (by simp)
   refine⟨rfl,⟨λb o e=>?_,λb o e=>un.there b o e (by simp)⟩,os,bare⟩
   cases q:H b with
   | none=>exact .inl (un.keep b o e q (noF b) (by simp))
   | some u =>
    rcases hH b u q with⟨rfl,_,rfl⟩ | ⟨t,ht,rfl⟩
    ·obtain⟨e2,_⟩:=Th b _ (un.frzs b _ _ q);rw[ha]at e;cases e;exact .inl e2
    ·obtain⟨h1,h2,_⟩:=hT b t ht;obtain⟨ps,e2,_⟩:=(Th b _ (un.tbls b _ q));rw[h1]at e;cases e;exact .inr (.inl ⟨h2,rfl,#[],ps,rfl,by grind⟩)
abbrev E0:XK:=λ_ _ _=>False
section
variable {X:Cx}
def pv(i:Nat){x:Str}{pos:Pos}(hN:X.N[i]?=some x:=by rfl)(hv:RH X.env.scope x:=by first | exact Or.inl rfl | exact Or.inr (Or.inl rfl) | exact Or.inr (Or.inr rfl))(hd:(x==("__debug__":Str))=false:=by decide)
  (wI:(x==("__classdict__":Str))=false:=by decide):PE X (.Name x pos) (Jg i):=pe_var hN hv hd wI
end
def cw(H H':Hp):Prop:=∀b o,H b=some o->H' b=some o
def cw.refl(H:Hp):cw H H:=λ_ _ h=>h
def cw.trans(a:cw H H1)(b:cw H1 H2):cw H H2:=λc o h=>b c o (a c o h)
def cw.free(e:cw H H')(h:H' l=Option.none):H l=Option.none:=by
 cases q:H l with
 | none=>rfl
 | some o =>
  rw[e l o q]at h;cases h
def cw.seq{K:W.Frag}{H H':Hp}{a:Addr}{xs:List V}(e:cw H H')(h:u6 K H a xs):u6 K H' a xs:=by
 rcases h with(h | ⟨o,h⟩) | h
 ·exact .inl (.inl (e _ _ h))
 ·exact .inl (.inr ⟨o,e _ _ h⟩)
 ·exact .inr h
section
variable {κ:Type} [DecidableEq κ]
noncomputable def om(kvs:List (κ×V))(k:κ):Option V:=(kvs.find? λkv=>decide (kv.1=k)).map (·.2)
noncomputable def putK(kvs:List (κ×V))(k:κ)(v:V):List (κ×V) :=
 if(kvs.any λkv=>decide (kv.1=k))=true then kvs.map (λkv=>if kv.1=k then(kv.1,v)else kv)else kvs++[(k,v)]
def lW{p:κ×V}{r:List (κ×V)}{k:κ}(e:p.1=k):om (p::r) k=some p.2:=by simp[om,pG,e]
def lX{p:κ×V}{r:List (κ×V)}{k:κ}(e:¬p.1=k):om (p::r) k=om r k:=by simp[om,pG,e]
theorem xo(k:κ):∀kvs:List (κ×V),(kvs.any λkv=>decide (kv.1=k))=(om kvs k).isSome
 | []=>rfl
 | p::r=>by
  rw[m9];by_cases e:p.1=k
  ·simp only[lW e,eS e,Bool.true_or,Option.isSome_some]
  ·rw[lX e,dz e,Bool.false_or];exact xo k r
def nZ.sY{o:Option V}{u:Option Value}(r:nZ o u):o.isSome=u.isSome:=by
 cases o with
 | none=>cases u with
  | none=>rfl
  | some _=>exact(show False from r).elim
 | some _=>cases u with
  | none=>exact(show False from r).elim
  | some _=>rfl
def KV.val{kvs:List (κ×V)}{vs:List (κ×Value)}(r:KV kvs vs)(k:κ):nZ (om kvs k) (valueAt vs k):=by
 unfold KV at r;induction r with
 | nil=>exact True.intro
 | @cons p q ps qs h t ih =>
  obtain⟨h1,h2⟩:=h;by_cases e:p.1=k
  ·have e':q.1=k:=by grind
   have b:valueAt (q::qs) k=some q.2:=by simp[valueAt,pG,e']
   rw[lW e,b];exact h2
  ·have e':¬q.1=k:=by grind
   have b:valueAt (q::qs) k=valueAt qs k:=by simp[valueAt,pG,e']
   rw[lX e,b];exact ih
def KV.any{kvs:List (κ×V)}{vs:List (κ×Value)}(r:KV kvs vs)(k:κ):(kvs.any λkv=>decide (kv.1=k))=vs.any λkv=>decide (kv.1=k):=by
 unfold KV at r;induction r with
 | nil=>rfl
 | cons h t ih=>rw[m9,m9,ih,h.1]
def KV.Yl{kvs:List (κ×V)}{vs:List (κ×Value)}(r:KV kvs vs)(k:κ){y:V}{u:Value}(ry:RelV y u) :
  KV (kvs.map λkv=>if kv.1=k then(kv.1,y)else kv) (vs.map λkv=>if kv.1=k then(kv.1,u)else kv):=by
 unfold KV at r ⊢;induction r with
 | nil=>exact .nil
 | @cons p q ps qs h t ih =>
  rw[aQ,aQ];refine .cons ?_ ih;obtain⟨h1,h2⟩:=h;by_cases e:p.1=k
  ·grind
  ·grind
def KV.put{kvs:List (κ×V)}{vs:List (κ×Value)}(r:KV kvs vs)(k:κ){y:V}{u:Value}(ry:RelV y u):KV (putK kvs k y) (stored vs k u):=by
 unfold putK stored;rw[r.any k];by_cases e:(vs.any λkv=>decide (kv.1=k))=true
 ·rw[if_pos e,if_pos e];exact r.Yl k ry
 ·rw[if_neg e,if_neg e];exact Paired.snoc r ⟨rfl,ry⟩
theorem KV.length{kvs:List (κ×V)}{vs:List (κ×Value)}(r:KV kvs vs):kvs.length=vs.length:=m7 r
end
def qu{P:Program}{w:World}{k:bQ}{u:Value}(r:RelV (kV k) u):(dj P w).is k u=true:=by
 cases k with
 | inl i=>obtain⟨t,e⟩:=(show ∃t,u=Value.int i t from r);subst e;exact wY P w i t
 | inr x=>obtain⟨t,e⟩:=(show ∃t,u=Value.str x t from r);subst e;exact wZ P w x t
theorem sZ{P:Program}{w:World}:∀{ks:List bQ} {us:List Value},Vals (ks.map kV) us->ItemsAre (dj P w) ks us
 | [],_,r=>by rw[di]at r;cases r;exact .nil
 | k::ks,_,r=>by
  rw[aQ]at r;cases r with
  | cons h t=>exact .cons (qu h) (sZ t)
section
variable {P:Program} {w:World} {H:Hp} {h:Heap} {a:Addr}
def Mu{u:HO}(ok:lG P w H h)(e:Rd H a u):fQ P w H h a u:=e.ok ok
def Bu{kvs:List (bQ×V)}(ok:lG P w H h)(e:Rd H a (.dK kvs)):kvs.length<=sizeLine/\(a==sysModules)=false/\∃vs,KV kvs vs/\h.DictOf (dj P w) a vs :=
 show fQ P w H h a (.dK kvs)from Mu ok e
def Ti{kvs:List (bQ×V)}(ok:lG P w H h)(e:H a=some (.dK kvs)):kvs.length<=sizeLine/\(a==sysModules)=false/\∃vs,KV kvs vs/\h.DictOf (dj P w) a vs:=Bu ok (.inl e)
end
section
variable {X:Cx} {ah:List (Addr×Obj)} {σ:St} {H:Hp} {s:Shared} {a b:Addr} {k:bQ×List bQ} {v:V} {r:Value} {A:Around} {E:Value->Shared->Prop} {xs:List ((bQ×List bQ)×Addr×Value)}
def JO{k:List bQ}(I:Inv X ah σ H s)(e:iC X.K H a (k.map kV)):(tupleKind (dj X.prog X.w)).is s.heap k a:=by
 obtain⟨ax,r,⟨o,h1,h2,n,h3⟩,_⟩:=I.tuple e;exact⟨o,ax.toArray,n,h1,h2,h3,by simpa using sZ r⟩
def key_is(I:Inv X ah σ H s)(e:Ej X.K H a k):(ju (dj X.prog X.w)).is s.heap k a:=by
 obtain⟨b,e1,e2⟩:=e;obtain⟨ax,r,⟨o,h1,h2,n,h3⟩,_⟩:=I.tuple e1;cases r with
 | @cons _ u _ us r1 r2 =>
  cases r2 with
  | cons r2 r3 =>
   cases r3;cases r2;exact⟨o,u,b,n,h1,h2,h3,qu r1,JO I e2⟩
def s9(I:Inv X ah σ H s)(e:Rd H a (.dT xs))(hk:fI X.K H xs):xs.length<=sizeLine/\(a==sysModules)=false/\s.heap.DictOfH (ju (dj X.prog X.w)) a xs:=by
 obtain⟨z,y,o,es,ep,h1,h2,h3,h4,h5⟩:=(show fQ X.prog X.w H s.heap a (.dT xs)from Mu I.hok e)
 exact⟨z,y,o,es,ep,h1,h2,h3,h4,λx hx=>key_is I (hk x hx),h5⟩
def Tj{Q:Value->Shared->Prop}(hu:A.units+2<cLine)(I:Inv X ah σ H s)(e:Rd H a (.dT xs))(hk:fI X.K H xs)(eb:Ej X.K H b k)(h:∀s',Inv X ah σ H s'->Q (.bool (atKey xs k).isSome) s') :
  wpAny (model X.prog X.w) A (compareOp .In (.ref b) (.ref a)) Q E s:=by
 obtain⟨_,hd,dd⟩:=s9 I e hk;exact wpAny_in_heap (fP hu) (key_is I eb) hd dd (h _ (I.tok _))
def Tn{Q:Value->Shared->Prop}(hu:A.units+2<cLine)(I:Inv X ah σ H s)(e:Rd H a (.dT xs))(hk:fI X.K H xs)(eb:Ej X.K H b k) (h:∀s',Inv X ah σ H s'->Q (.bool (!(atKey xs k).isSome)) s') :
  wpAny (model X.prog X.w) A (compareOp .NotIn (.ref b) (.ref a)) Q E s:=by
 obtain⟨_,hd,dd⟩:=s9 I e hk;exact wpAny_notIn_heap (fP hu) (key_is I eb) hd dd (h _ (I.tok _))
def To{Q:Value->Shared->Prop}{p:Addr×Value}(hu:A.units+2<cLine)(I:Inv X ah σ H s)(e:Rd H a (.dT xs))(hk:fI X.K H xs)(eb:Ej X.K H b k)(hp:atKey xs k=some p)(h:∀s',Inv X ah σ H s'->Q p.2 s') :
  wpAny (model X.prog X.w) A (getItem (.ref a) (.ref b)) Q E s:=by
 obtain⟨_,hd,dd⟩:=s9 I e hk;exact wpAny_getItem_heap (fP hu) (key_is I eb) dd hp (h _ (I.tok _))
def qw{κ:Type} [DecidableEq κ] (xs:List (κ×Addr×Value)) (k:κ) (a:Addr) (v:Value):(storedH xs k a v).length<=xs.length+1:=by
 unfold storedH;split
 ·grind
 ·grind
def OE{Q:Unit->Shared->Prop}(hu:A.units+2<cLine)(I:Inv X ah σ H s)(e:H a=some (.dT xs))(hk:fI X.K H xs)(eb:Ej X.K H b k)(hl:xs.length<sizeLine)
  (h:∀s',Inv X ah σ (cU H a (.dT (storedH xs k b r))) s'->Q () s'):wpAny (model X.prog X.w) A (setItem (.ref a) (.ref b) r) Q E s:=by
 obtain⟨_,hd,dd⟩:=s9 I (.inl e) hk;refine wpAny_setItem_heap (hsz:=pU hl) (fP hu) (key_is I eb) dd λh' RO hs=>h _ ?_
 obtain⟨q,es,ep,hq,h2,h3,h4,_,h5⟩:=RO;exact I.write (x:=a) (e:=a) (by rw[e];exact True.intro) (.inl rfl) (λc q' hc z=>(hs.2 c hc).trans z) ⟨q,hq⟩ ⟨(by have:=qw xs k b r;lia),hd,q,es,ep,hq,h2,h3,h4,h5⟩
def lY(I:Inv X ah σ H s):sysModules<s.heap.objs.size:=jm (by decide) (show mainGlobals<s.heap.objs.size from(I.mod.glob.keeps I.bk).lt)
def Mv(o:HO):TE:=λ_ H Q=>∀p,H p=none->Q (.ref p) (cU H p o)
def JP{pos:Pos}:PE X (.Dict [] [] pos) (Mv (.dT [])):=λah s σ H Q I h =>
 wpAny_Dict_empty ⟨.ref s.heap.objs.size,_,I.laid (a:=s.heap.objs.size) (o:=.dT []) (t':=s.toks) (λ_ _ q=>aK _ q) (aF _)
  ⟨iA _,hZ.mpr (bU (bC (lY I))),_,#[],0,bL _ rfl,⟨rfl,rfl,rfl⟩,rfl,rfl,pO⟩,rfl,h _ (I.hok.fresh (aF _))⟩
def Dh{κ:Type} [DecidableEq κ] (xs:List (κ×Addr×Value)) (k:κ):(atKey xs k).isSome=(xs.map (·.1)).any λj=>decide (j=k):=by
 unfold atKey;rw[Option.isSome_map,List.any_map,List.isSome_find?];rfl
end
def FE(mg:Str->Option Value)(base:Heap):Prop:=∃bm o,mg "__builtins__"=some (.ref bm)/\bm≠builtinsNs/\bm≠mainGlobals/\base.get? bm=some o/\o.cls=.type "module"/\o.dict=some builtinsNs/\o.data=.plain
end L2
namespace L2.U
open PySem PySem.Spec PyProof.Rows
noncomputable abbrev PV.lst (ps:List PV):PV:=.nd .lst ps
structure Gr (F F':Fz):Prop where
 s:cw F.F F'.F
 m:∀(n:Nat) (a:Addr),F.μ[n]?=some a->F'.μ[n]?=some a
def Gr.refl(F:Fz):Gr F F:=⟨cw.refl _,λ_ _ h=>h⟩
def Gr.trans(a:Gr F F1)(b:Gr F1 F2):Gr F F2:=⟨a.s.trans b.s,λn c h=>b.m n c (a.m n c h)⟩
def cZ{K:W.Frag}(e:cw H H')(h:iC K H a xs):iC K H' a xs:=by
 rcases h with(h | ⟨o,h⟩) | h
 ·exact .inl (.inl (e _ _ h))
 ·exact .inl (.inr ⟨o,e _ _ h⟩)
 ·exact .inr h
def ek{K:W.Frag}(e:cw H H')(h:Ej K H a k):Ej K H' a k:=let ⟨b,h1,h2⟩:=h;⟨b,cZ e h1,cZ e h2⟩
def JQ(e:cw H H')(h:Rd H a u):Rd H' a u:=h.imp (e _ _) (by rintro⟨o,q⟩;exact⟨o,e _ _ q⟩)
def jx{K:W.Frag}(e:cw H H')(h:iR K H a xs):iR K H' a xs:=h.imp (JQ e) id
def _root_.L2.iR.of{K:W.Frag}(h:H a=some (.lst xs)):iR K H a xs:=.inl (.inl h)
section
variable {K:W.Frag} {F F':Fz}
def kW.to(h:kW K G H a x k vs)(g:cw G G')(e:∀o,H a=some o->H' a=some o)(hy:y=true->x=true):kW K G' H' a y k vs:=by
 have keys:∀{xs:List ((bQ×List bQ)×Addr×Value)},fI K G xs->fI K G' xs:=λhk z hz=>ek g (hk z hz)
 match k,h with
 | .au,⟨h1,h2⟩ =>
  refine⟨?_,?_⟩
  ·grind
  ·rcases h2 with(h2 | ⟨o,h2⟩) | h2
   ·exact .inl (.inl (e _ h2))
   ·exact .inl (.inr ⟨o,e _ h2⟩)
   ·exact .inr h2
 | .lst,h =>
  cases y with
  | true=>rw[hy rfl]at h;exact e _ h
  | false =>
   cases x with
   | true=>exact iR.of (e _ h)
   | false =>
    rcases(h)with(h | ⟨o,h⟩) | h
    ·exact .inl (.inl (e _ h))
    ·exact .inl (.inr ⟨o,e _ h⟩)
    ·exact .inr h
 | .ins C ns,⟨Ca,dx,fs,h1,h2,h3,h4,h5⟩=>exact⟨Ca,dx,fs,h1,h2,h3,e _ h4,h5⟩
 | .eQ false ks,⟨kvs,h1,h2⟩=>exact⟨kvs,e _ h1,h2⟩
 | .eQ true ks,⟨xs,h1,h2,h3⟩=>exact⟨xs,e _ h1,keys h2,h3⟩
mutual
theorem bj.mono(e:Gr F F'):∀{p:PV} {v:V},bj K F p v->bj K F' p v
 | .aL,_,h=>by simpa only[bj]using h
 | .bl _,_,h=>by simpa only[bj]using h
 | .int _,_,h=>by simpa only[bj]using h
 | .str _,_,h=>by simpa only[bj]using h
 | .fn _,_,h=>by simpa only[bj]using h
 | .ref n,_,h=>by
  simp only[bj]at h ⊢;obtain⟨a,h1,h2⟩:=h;exact⟨a,e.m _ _ h1,h2⟩
 | .nd k ps,_,h=>by
  simp only[bj]at h ⊢;obtain⟨a,vs,h1,h2,h3⟩:=h;exact⟨a,vs,h1,h2.to e.s (λo q=>e.s _ _ q) id,ay.mono e h3⟩
theorem ay.mono(e:Gr F F'):∀{ps:List PV} {vs:List V},ay K F ps vs->ay K F' ps vs
 | [],_,h=>by simpa only[ay]using h
 | _::_,_,h=>by
  simp only[ay]at h ⊢;obtain⟨v,r,h1,h2,h3⟩:=h;exact⟨v,r,h1,h2.mono e,ay.mono e h3⟩
end
def ay.bV(h:ay K F (p::ps) vs):∃v r,vs=v::r/\bj K F p v/\ay K F ps r:=by
 simpa only[ay]using h
def ay.cx(h:ay K F [] vs):vs=[]:=by simpa only[ay]using h
theorem qy:∀{ps:List PV} {vs:List V},ay K F ps vs↔Paired (bj K F) ps vs
 | [],vs=>⟨λh=>by rw[h.cx];exact .nil,λh=>by cases h;exact .nil⟩
 | p::ps,vs=>⟨λh=>by obtain⟨v,r,rfl,h1,h2⟩:=h.bV;exact .cons h1 (qy.mp h2),λh=>by cases h with | cons h1 h2=>exact .cons h1 (qy.mpr h2)⟩
def ay.length(h:ay K F ps vs):ps.length=vs.length:=m7 (qy.mp h)
theorem ay.append:∀{ps qs:List PV} {vs ws:List V},ay K F ps vs->ay K F qs ws->ay K F (ps++qs) (vs++ws)
 | [],_,_,_,h,t=>by rw[h.cx];exact t
 | _::_,_,_,_,h,t=>by
  obtain⟨v,r,rfl,h1,h2⟩:=h.bV;exact .cons h1 (h2.append t)
theorem ay.get:∀{ps:List PV} {vs:List V} {i:Nat} {p:PV},ay K F ps vs->ps[i]?=some p->∃v,vs[i]?=some v/\bj K F p v
 | [],_,_,_,_,e=>by cases e
 | _::_,_,0,_,h,e=>by
  obtain⟨v,r,rfl,h1,_⟩:=h.bV;cases e;exact⟨v,rfl,h1⟩
 | _::_,_,_+1,_,h,e=>by
  obtain⟨v,r,rfl,_,h2⟩:=h.bV;exact h2.get e
theorem ay.take:∀{ps:List PV} {vs:List V} (n:Nat),ay K F ps vs->ay K F (ps.take n) (vs.take n)
 | _,_,0,_=>by simp only[List.take_zero];exact .nil
 | [],_,_+1,h=>by rw[h.cx];simp only[List.take_nil];exact .nil
 | _::_,_,n+1,h=>by
  obtain⟨v,r,rfl,h1,h2⟩:=h.bV;exact .cons h1 (h2.take n)
theorem ay.drop:∀{ps:List PV} {vs:List V} (n:Nat),ay K F ps vs->ay K F (ps.drop n) (vs.drop n)
 | _,_,0,h=>h
 | [],_,_+1,h=>by rw[h.cx];simp only[List.drop_nil];exact .nil
 | _::_,_,n+1,h=>by
  obtain⟨v,r,rfl,_,h2⟩:=h.bV;exact h2.drop n
theorem ay.set(r:bj K F p v):∀{ps:List PV} {vs:List V} (i:Nat),ay K F ps vs->ay K F (ps.set i p) (vs.set i v)
 | [],_,_,h=>by rw[h.cx];exact .nil
 | _::_,_,0,h=>by
  obtain⟨v,r',rfl,_,h2⟩:=h.bV;exact .cons r h2
 | _::_,_,i+1,h=>by
  obtain⟨v,r',rfl,h1,h2⟩:=h.bV;exact .cons h1 (h2.set r i)
def dm:bj K F (.ref n) v↔∃a,F.μ[n]?=some a/\v=.ref a:=by simp only[bj]
def qz:bj K F (.fn x) v↔∃a,v=.ref a/\W.nsIn K mainGlobals x=some (some (.ref a)):=by simp only[bj]
def dA:bj K F (.lst ps) v↔∃a vs,v=.ref a/\iR K F.F a vs/\ay K F ps vs:=iD
end
structure aj where
 k:Kd
 ps:List PV
structure bY where
 ρ:List (Option PV)
 h:List aj
noncomputable def live(c:aj):Bool:=match c.k with | .au=>false | _=>true
structure lH (K:W.Frag) (af:Hp) (ag F:Fz) (h:List aj) (H:Hp):Prop where
 sub:cw F.F H
 keep:cw af H
 base:Gr ag F
 fresh:∀a o,F.F a=some o->ag.F a=some o\/af a=none
 new:∀(n:Nat) (a:Addr),F.μ[n]?=some a->af a=none/\∃o,H a=some o
 hl:h.length=F.μ.length
 nd:F.μ.Nodup
 cell:∀(n:Nat) (c:aj) (a:Addr),h[n]?=some c->F.μ[n]?=some a->live c=true->F.F a=none/\∃vs,kW K F.F H a true c.k vs/\ay K F c.ps vs
structure Lc (K:W.Frag) (F:Fz) (ρ:List (Option PV)) (σ:St):Prop where
 av:∀(i:Nat) (p:PV),ρ[i]?=some (some p)->∃v,σ[i]?=some (some v)/\bj K F p v
 len:ρ.length=σ.length
structure Rep (K:W.Frag) (af:Hp) (ag F:Fz) (st:bY) (σ:St) (H:Hp):Prop where
 c:lH K af ag F st.h H
 l:Lc K F st.ρ σ
def fR(h:H p=none):cw H (cU H p o):=λb u q=>by rw[aN (dk q h)];exact q
section
variable {K:W.Frag} {af H H':Hp} {ag F F':Fz} {h:List aj} {st:bY} {σ:St}
def Lc.mono(L:Lc K F ρ σ)(e:Gr F F'):Lc K F' ρ σ:=⟨λi p z=>let ⟨v,h1,h2⟩:=L.av i p z;⟨v,h1,h2.mono e⟩,L.len⟩
def lH.after(R:lH K af ag F h H)(e:cw H H')(f:cw F.F F'.F)(m:F'.μ=F.μ)(s:cw F'.F H')(n:∀a o,F'.F a=some o->F.F a=some o\/H a=none):lH K af ag F' h H' where
 sub:=s
 keep:=R.keep.trans e
 base:=R.base.trans ⟨f,λ_ _ q=>by rw[m];exact q⟩
 fresh:=λa o q=>by
  rcases n a o q with z | z
  ·exact R.fresh a o z
  ·exact .inr (R.keep.free z)
 new:=λn a q=>by rw[m]at q;obtain⟨h1,o,h2⟩:=R.new n a q;exact⟨h1,o,e _ _ h2⟩
 hl:=by rw[m];exact R.hl
 nd:=by rw[m];exact R.nd
 cell:=λi c a hc ha hk=>by
  rw[m]at ha;obtain⟨h1,vs,h2,h3⟩:=R.cell i c a hc ha hk;refine⟨?_,vs,h2.to f (λo q=>e _ _ q) id,h3.mono ⟨f,λ_ _ q=>by rw[m];exact q⟩⟩
  obtain⟨_,o,ho⟩:=R.new i a ha;cases q:F'.F a with
  | none=>rfl
  | some u =>
   rcases n a u q with z | z
   ·rw[h1]at z;cases z
   ·rw[ho]at z;cases z
def Rep.after(R:Rep K af ag F st σ H)(e:cw H H')(f:cw F.F F'.F)(m:F'.μ=F.μ)(s:cw F'.F H')(n:∀a o,F'.F a=some o->F.F a=some o\/H a=none):Rep K af ag F' st σ H' :=
 ⟨R.c.after e f m s n,R.l.mono ⟨f,λ_ _ q=>by grind⟩⟩
def Rep.sub(R:Rep K af ag F st σ H):cw F.F H:=R.c.sub
def Rep.laid(R:Rep K af ag F st σ H)(o:HO)(hp:H p=none):Rep K af ag ⟨cU F.F p o,F.μ⟩ st σ (cU H p o)/\Gr F ⟨cU F.F p o,F.μ⟩:=by
 have fp:=R.sub.free hp;refine⟨R.after (fR hp) (fR fp) rfl (λb u q=>?_) (λb u q=>?_),fR fp,λ_ _ q=>q⟩
 ·by_cases hb:b=p
  ·subst hb;rw[show(Fz.mk (cU F.F b o) F.μ).F b=cU F.F b o b from rfl,aA]at q;rw[aA];exact q
  ·rw[show(Fz.mk (cU F.F p o) F.μ).F b=cU F.F p o b from rfl,aN hb]at q;rw[aN hb];exact R.sub _ _ q
 ·by_cases hb:b=p
  ·grind
  ·rw[show(Fz.mk (cU F.F p o) F.μ).F b=cU F.F p o b from rfl,aN hb]at q;exact .inl q
def lH.alloc(R:lH K af ag F h H)(hp:H p=none)(hn:kW K F.F (cU H p o) p true c.k vs)(hb:ay K F c.ps vs) :
  lH K af ag ⟨F.F,F.μ++[p]⟩ (h++[c]) (cU H p o)/\Gr F ⟨F.F,F.μ++[p]⟩/\(F.μ++[p])[h.length]?=some p:=by
 have g:Gr F ⟨F.F,F.μ++[p]⟩:=⟨cw.refl _,λn a q=>by
  grind⟩
 have WI:∀n a,(F.μ++[p])[n]?=some a->F.μ[n]?=some a\/n=F.μ.length/\a=p:=λn a q=>by
  grind
 have no:∀n a,F.μ[n]?=some a->a≠p:=λn a q z=>by
  subst z;obtain⟨_,o,ho⟩:=R.new n a q;rw[hp]at ho;cases ho
 refine⟨⟨λb u q=>by rw[aN (dk (R.sub _ _ q) hp)];exact R.sub _ _ q,R.keep.trans (fR hp),R.base.trans g,R.fresh,λn a q=>?_,by simp[R.hl],?_,λn d a hd ha hk=>?_⟩,g,by rw[R.hl];simp⟩
 ·rcases WI n a q with z | ⟨_,rfl⟩
  ·obtain⟨h1,u,h2⟩:=R.new n a z;exact⟨h1,u,fR hp _ _ h2⟩
  ·exact⟨R.keep.free hp,o,aA⟩
 ·rw[zk];refine⟨R.nd,by simp,λa ha b hb z=>?_⟩
  obtain⟨n,hn⟩:=uz.mp ha;rw[bz]at hb;exact no n a hn (z.trans hb)
 ·rcases WI n a ha with z | ⟨rfl,rfl⟩
  ·rw[gz (by rw[R.hl];exact(dS.mp z).1)]at hd
   obtain⟨h1,ws,h2,h3⟩:=R.cell n d a hd z hk;exact⟨h1,ws,h2.to (cw.refl _) (λu q=>fR hp _ _ q) id,h3.mono g⟩
  ·rw[<-R.hl,kA (aF _),Nat.sub_self]at hd;cases hd;exact⟨R.sub.free hp,vs,hn,hb.mono g⟩
def lH.write(R:lH K af ag F h H)(hc:h[n]?=some c)(hl:live c=true)(ha:F.μ[n]?=some a)(hn:kW K F.F (cU H a o) a true d.k vs)(hb:ay K F d.ps vs) :
  lH K af ag F (h.set n d) (cU H a o):=by
 obtain⟨hF,_⟩:=R.cell n c a hc ha hl;refine⟨λb u q=>by rw[aN (λz=>by grind)];exact R.sub _ _ q,λb u q=>?_,R.base,R.fresh,λm b q=>?_,by rw[gB];exact R.hl,R.nd,λm e b he jS hk=>?_⟩
 ·rw[aN (λz=>by subst z;rw[(R.new n b ha).1]at q;cases q)];exact R.keep _ _ q
 ·obtain⟨h1,u,h2⟩:=R.new m b q;refine⟨h1,?_⟩;by_cases hb:b=a
  ·subst hb;exact⟨o,aA⟩
  ·exact⟨u,by rw[aN hb];exact h2⟩
 ·by_cases hm:n=m
  ·grind
  ·rw[bW hm]at he;obtain⟨h1,ws,h2,h3⟩:=R.cell m e b he jS hk;have ne:b≠a:=λz=>by
    subst z;obtain⟨l1,e1⟩:=dS.mp jS;obtain⟨l2,e2⟩:=dS.mp ha;exact hm ((List.getElem_inj R.nd).mp (e2.trans e1.symm))
   exact⟨h1,ws,h2.to (cw.refl _) (λu q=>by rw[aN ne];exact q) id,h3⟩
end
def _root_.L2.PE.imp(h:PE X e t)(hi:∀σ H Q,t' σ H Q->t σ H Q):PE X e t':=λah s σ H Q I hw=>h ah s σ H Q I (hi _ _ _ hw)
def _root_.L2.PT.imp(h:PT X e t)(hi:∀σ H Q,t' σ H Q->t σ H Q):PT X e t':=λah s σ H Q I hw=>h ah s σ H Q I (hi _ _ _ hw)
def _root_.L2.PW.imp(h:PW X e t)(hi:∀σ H Q,t' σ H Q->t σ H Q):PW X e t':=λw ah s σ H Q I hw=>h w ah s σ H Q I (hi _ _ _ hw)
def _root_.L2.PA.imp(h:PA X e t)(hi:∀σ H Q,t' σ H Q->t σ H Q):PA X e t':=λpos ah s σ H Q I hw=>h pos ah s σ H Q I (hi _ _ _ hw)
def _root_.L2.PS.imp{st:Stmt}(h:PS X st t)(hi:∀D σ H,t' D σ H->t D σ H):PS X st t':=λah s σ H D I hw=>h ah s σ H D I (hi _ _ _ hw)
def _root_.L2.PSs.imp{st:List Stmt}(h:PSs X st t)(hi:∀D σ H,t' D σ H->t D σ H):PSs X st t':=λah s σ H D I hw=>h ah s σ H D I (hi _ _ _ hw)
def _root_.L2.PG.imp(h:PG X e t)(hi:∀v σ H Q,t' v σ H Q->t v σ H Q):PG X e t':=λah s σ H v u Q I r hw=>h ah s σ H v u Q I r (hi _ _ _ _ hw)
def _root_.L2.PGs.imp(h:PGs X e t)(hi:∀v σ H Q,t' v σ H Q->t v σ H Q):PGs X e t':=λah s σ H v u Q I r hw=>h ah s σ H v u Q I r (hi _ _ _ _ hw)
def _root_.L2.PI.imp(h:PI X tg e t)(hi:∀σ H Q,t' σ H Q->t σ H Q):PI X tg e t':=λah s σ H R I hw=>h ah s σ H R I (hi _ _ _ hw)
inductive Rs (α:Type) where
 | ok (a:α) | ex (m:Bool) (C:Str)
abbrev Gx(α:Type):=bY->Option (Rs α×bY)
noncomputable def OF{α β:Type}(k:α->Gx β):Rs α×bY->Option (Rs β×bY)
 | (.ok a,st)=>k a st
 | (.ex m C,st)=>some (.ex m C,st)
def bnd{α β:Type}(f:Gx α)(k:α->Gx β):Gx β:=λst=>(f st).bind (OF k)
noncomputable def cA{α:Type}(a:α):Gx α:=λst=>some (.ok a,st)
noncomputable def hp{α:Type}(g:List aj->Option α):Gx α:=λst=>(g st.h).map λa=>(.ok a,st)
noncomputable def jT{α:Type}(o:Option α):Gx α:=λst=>o.map λa=>(.ok a,st)
def Dm(H H':Hp):Prop:=∀b o,H b=some o->∃o',H' b=some o'
def ij(P:Program)(w:World):CO:=λaB H s E e s'=>∃a cls a0 B H',e=.ref a/\s'.os=s.os/\AllBare s'.gens/\Un (lN aB) [] H H' s.heap s'.heap/\lG P w H' s'.heap/\Dm H H'/\E cls none H' /\
 Heap.FlyingW B aB a cls a0 s'.heap/\(∀b o,H' b=some o->∃ob,B.get? b=some ob)/\∀b ob,s.heap.get? b=some ob->H b=none->b∉lN aB->B.get? b=some ob
def td:vd (ij P w) X E0:=(by rintro _ _ _ _ _ _ _ ⟨_,_,_,_,_,_,_,_,_,_,_,h,_⟩;exact h.elim)
def FF(X:Cx)(af:Hp)(ag F:Fz)(C:Str)(st:bY):Bool->Prop
 | true=>∀F' bG H' ah s h1 a cls vs,Rep X.K af ag F' st bG H'->Gr F F'->Inv X ah bG H' s->ClsAt X.K C cls->Heap.MadeExcOf s.heap h1 a cls vs->X.xe (.ref a) {s with heap:=h1}
 | false=>∀bG ah H1 s1 e s',Inv X ah bG H1 s1->ij X.prog X.w X.stack H1 s1 (λcls _ H2=>ClsAt X.K C cls/\∃F',Rep X.K af ag F' st bG H2/\Gr F F') e s'->X.xe e s'
section
variable {X:Cx} {af H:Hp} {ag F F1:Fz} {st st1:bY} {σ:St} {α β γ δ:Type}
def FF.mono(h:FF X af ag F C st m)(s:Gr F F1):FF X af ag F1 C st m:=by
 cases m with
 | true=>exact λF' bG H' ah s1 h1 a cls vs R z=>h F' bG H' ah s1 h1 a cls vs R (s.trans z)
 | false =>
  rintro bG ah H1 s1 e s' I ⟨a,cls,a0,B,H',h1,h2,h3,h4,h5,h6,⟨c,F',R,z⟩,h8⟩
  exact h bG ah H1 s1 e s' I ⟨a,cls,a0,B,H',h1,h2,h3,h4,h5,h6,⟨c,F',R,s.trans z⟩,h8⟩
def FG(X:Cx)(af:Hp)(ag F:Fz)(P:α->bY->Prop):Rs α×bY->Prop
 | (.ok a,st)=>P a st
 | (.ex m C,st)=>FF X af ag F C st m
def At(X:Cx)(af:Hp)(ag F:Fz)(st:bY)(f:Gx α)(P:α->bY->Prop):Prop:=∃r,f st=some r/\FG X af ag F P r
def FG.imp(h:FG X af ag F P r)(g:Gr F F1)(i:∀a st',P a st'->P' a st'):FG X af ag F1 P' r:=by
 match r,h with
 | (.ok a,st),h=>exact i a st h
 | (.ex m C,st),h=>exact FF.mono h g
def At.imp(h:At X af ag F st f P)(g:Gr F F1)(i:∀a st',P a st'->P' a st'):At X af ag F1 st f P' :=
 let ⟨r,h1,h2⟩:=h;⟨r,h1,h2.imp g i⟩
def aO(h:o.bind f=some b):∃a,o=some a/\f a=some b:=by
 cases o with
 | none=>cases h
 | some a=>exact⟨a,rfl,h⟩
def aP(h:o.map f=some b):∃a,o=some a/\f a=b:=by
 simp_all
def At.bnd(h:At X af ag F st (bnd f k) P):At X af ag F st f (λa st1=>At X af ag F st1 (k a) P):=by
 obtain⟨r,h1,h2⟩:=h;obtain⟨q,e1,e2⟩:=aO h1;refine⟨q,e1,?_⟩
 match q,e2 with
 | (.ok a,s1),e2=>exact⟨r,e2,h2⟩
 | (.ex m C,s1),e2=>cases e2;exact h2
def At.cA(h:At X af ag F st (cA a) P):P a st:=by
 obtain⟨r,h1,h2⟩:=h;cases h1;exact h2
def At.hp(h:At X af ag F st (hp g) P):∃a,g st.h=some a/\P a st:=by
 obtain⟨r,h1,h2⟩:=h;obtain⟨a,e1,e2⟩:=aP h1;subst e2;exact⟨a,e1,h2⟩
def At.jT(h:At X af ag F st (jT g) P):∃a,g=some a/\P a st:=by
 obtain⟨r,h1,h2⟩:=h;obtain⟨a,e1,e2⟩:=aP h1;subst e2;exact⟨a,e1,h2⟩
def Tx(X:Cx)(af:Hp)(ag:Fz)(rl:Fz->α->β->Prop)(F:Fz)(st:bY)(f:Gx α)(σ:St)(Q:β->Hp->Prop):Prop :=
 At X af ag F st f λa st'=>∀b H' F',Rep X.K af ag F' st' σ H'->Gr F F'->rl F' a b->Q b H'
def tX(X:Cx)(af:Hp)(ag:Fz)(rl:Fz->α->β->Prop)(f:Gx α):St->Hp->(β->Hp->Prop)->Prop:=λσ H Q=>∃F st,Rep X.K af ag F st σ H/\Tx X af ag rl F st f σ Q
def Tx.mono(h:Tx X af ag rl F st f σ Q)(g:Gr F F1)(i:∀b H',Q b H'->Q' b H'):Tx X af ag rl F1 st f σ Q' :=
 At.imp h g λa st' q b H' F' R s r=>i _ _ (q b H' F' R (g.trans s) r)
def Tx.bnd(h:Tx X af ag rl' F st (bnd f k) σ Q)
  (i:∀a b F1 st1 H1,Rep X.K af ag F1 st1 σ H1->Gr F F1->rl F1 a b->Tx X af ag rl' F1 st1 (k a) σ Q->Q' b H1):Tx X af ag rl F st f σ Q' :=
 At.imp (At.bnd h) (Gr.refl F) λa st1 q b H1 F1 R1 g1 r1=>i a b F1 st1 H1 R1 g1 r1 (Tx.mono (q) g1 λ_ _ z=>z)
def Tx.cA(h:Tx X af ag rl F st (cA a) σ Q):∀b H' F',Rep X.K af ag F' st σ H'->Gr F F'->rl F' a b->Q b H':=At.cA h
def Tx.hp(h:Tx X af ag rl F st (hp g) σ Q):∃a,g st.h=some a/\∀b H' F',Rep X.K af ag F' st σ H'->Gr F F'->rl F' a b->Q b H':=At.hp h
def Tx.jT(h:Tx X af ag rl F st (jT g) σ Q):∃a,g=some a/\∀b H' F',Rep X.K af ag F' st σ H'->Gr F F'->rl F' a b->Q b H':=At.jT h
end
abbrev rB:Fz->Bool->Bool->Prop:=λ_ a b=>a=b
abbrev tE(X:Cx)(af:Hp)(ag:Fz)(f:Gx PV):TE:=tX X af ag (bj X.K) f
abbrev tT(X:Cx)(af:Hp)(ag:Fz)(f:Gx Bool):TT:=tX X af ag rB f
abbrev tA(X:Cx)(af:Hp)(ag:Fz)(f:Gx (List PV)):TA:=tX X af ag (ay X.K) f
section
variable {X:Cx} {af:Hp} {ag:Fz} {a b c e:Expr} {es rest:List Expr} {fa fb fc:Gx PV} {ga gb:Gx Bool} {ts:Gx (List PV)} {pos:Pos}
noncomputable def rd(i:Nat):Gx PV:=λst=>(st.ρ[i]?).join.map λp=>(.ok p,st)
def Tp(i:Nat)(h:PE X (.Name x pos) (Jg i)):PE X (.Name x pos) (tE X af ag (rd i)):=h.imp <| by
 rintro σ H Q ⟨F,st,R,r,h1,h2⟩
 obtain⟨p,e1,e2⟩:=aP h1;subst e2;cases z:st.ρ[i]? with
 | none=>rw[z]at e1;cases e1
 | some o =>
  rw[z]at e1;cases o with
  | none=>cases e1
  | some p' =>
   cases e1;obtain⟨v,h3,h4⟩:=R.l.av i p z;exact⟨v,h3,h2 v H F R (Gr.refl F) h4⟩
def xp(h:PE X e (tC v))(hb:∀F,bj X.K F p v):PE X e (tE X af ag (cA p)):=h.imp (by rintro σ H Q ⟨F,st,R,q⟩;exact q.cA v H F R (Gr.refl F) (hb F))
def Tq{j pos}:PE X (.Constant (.int i) j pos) (tE X af ag (cA (.int i))):=xp NR λ_=>aG.mpr rfl
def Ym{j pos}:PE X (.Constant (.bool i) j pos) (tE X af ag (cA (.bl i))):=xp SD λ_=>br.mpr rfl
def Ts{j pos}:PE X (.Constant .none j pos) (tE X af ag (cA .aL)):=xp NS λ_=>cX.mpr rfl
def Tt{j pos}:PE X (.Constant (.str i) j pos) (tE X af ag (cA (.str i))):=xp NT λ_=>bN.mpr rfl
abbrev G2:=List aj->PV->PV->Option PV
def rT(K:W.Frag)(g:G2):R2:=λx y H Q=>∃af ag F st τ pa pb p,g st.h pa pb=some p/\Rep K af ag F st τ H/\bj K F pa x/\bj K F pb y/\∀v H' F',Rep K af ag F' st τ H'->Gr F F'->bj K F' p v->Q v H'
abbrev oV(X:Cx)(f:Value->Value->Sem Value)(g:G2):Prop:=OpR X f (rT X.K g)
def op2(g:G2)(fa fb:Gx PV):Gx PV:=bnd fa λx=>bnd fb λy=>hp λh=>g h x y
def oW(h:tE X af ag (op2 g fa fb) σ H Q):SQ (rT X.K g) (tE X af ag fa) (tE X af ag fb) σ H Q:=by
 obtain⟨F,st,R,h⟩:=h;refine⟨F,st,R,h.bnd λp v F1 st1 H1 R1 g1 b1 h1=>⟨F1,st1,R1,h1.bnd λq w F2 dG H2 R2 g2 b2 h2=>?_⟩⟩
 obtain⟨o,e,z⟩:=h2.hp;exact⟨af,ag,F2,dG,σ,p,q,o,e,R2,b1.mono g2,b2,z⟩
def Yn(ho:oV X (binaryOp op) g)(ha:PE X a (tE X af ag fa))(hb:PE X b (tE X af ag fb)):PE X (.BinOp a op b pos) (tE X af ag (op2 g fa fb)):=(Mo ho ha hb).imp λ_ _ _ h=>oW h
def Tu(ho:oV X (compareOp op) g)(ha:PE X a (tE X af ag fa))(hb:PE X b (tE X af ag fb))(hm:behindInMarks op b=false):PE X (.Compare a [op] [b] pos) (tE X af ag (op2 g fa fb)):=(Jw ho ha hb hm).imp λ_ _ _ h=>oW h
noncomputable def FH:PV->Option Bool | .bl b=>some b | _=>none
def qA{b:Bool}(h:FH p=some b):p=.bl b:=by
 cases p<;>first | (cases h;rfl) | cases h
def toB(f:Gx PV):Gx Bool:=bnd f λp=>jT (FH p)
def toB_imp(h:tT X af ag (toB fa) σ H Q):tE X af ag fa σ H λv H1=>∃k,v=.bl k/\Q k H1:=by
 obtain⟨F,st,R,h⟩:=h;refine⟨F,st,R,h.bnd λp v F1 st1 H1 R1 g1 b1 h1=>?_⟩
 obtain⟨k,e,z⟩:=h1.jT;rw[qA e]at b1;exact⟨k,br.mp b1,z k H1 F1 R1 (Gr.refl _) rfl⟩
def Tv(ho:oV X (compareOp op) g)(ha:PE X a (tE X af ag fa))(hb:PE X b (tE X af ag fb))(hm:behindInMarks op b=false):PT X (.Compare a [op] [b] pos) (tT X af ag (toB (op2 g fa fb))) :=
 (Jx ho ha hb hm).imp λ_ _ _ h=>oW (toB_imp h)
def chain(g g':G2)(fa fb fc:Gx PV):Gx PV:=bnd fa λx=>bnd fb λy=>bnd (hp λh=>(g h x y).bind FH) λk=>if k=true then bnd fc λz=>hp λh=>g' h y z else cA (.bl false)
def tj(h:tE X af ag (chain g g' fa fb fc) σ H Q):zS (rT X.K g) (rT X.K g') (tE X af ag fa) (tE X af ag fb) (tE X af ag fc) σ H Q:=by
 obtain⟨F,st,R,h⟩:=h;refine⟨F,st,R,h.bnd λp v F1 st1 H1 R1 g1 b1 h1=>⟨F1,st1,R1,h1.bnd λq w F2 dG H2 R2 g2 b2 h2=>?_⟩⟩
 obtain⟨k,e,z⟩:=At.hp (At.bnd h2);obtain⟨o,e1,e2⟩:=aO e;rw[qA e2]at e1;refine⟨af,ag,F2,dG,σ,p,q,_,e1,R2,b1.mono g2,b2,λu H3 F3 R3 g3 b3=>⟨k,br.mp b3,?_⟩⟩
 cases k with
 | true =>
  have z:Tx X af ag (bj X.K) F2 dG (bnd fc λz=>hp λh=>g' h q z) σ Q:=z
  refine⟨F3,dG,R3,(z.mono g3 λ_ _ y=>y).bnd λt o F4 Eo H4 R4 g4 b4 h4=>?_⟩
  obtain⟨o,e,z⟩:=h4.hp;exact⟨af,ag,F4,Eo,σ,q,t,o,e,R4,b2.mono (g3.trans g4),b4,z⟩
 | false=>exact Tx.cA z _ H3 F3 R3 g3 (br.mpr rfl)
def JR(ho:oV X (compareOp op) g)(mP:oV X (compareOp wK) g')(ha:PE X a (tE X af ag fa))(hb:PE X b (tE X af ag fb))(hc:PE X c (tE X af ag fc))
  (hm:lastMarks [op,wK] [b,c]=false):PE X (.Compare a [op,wK] [b,c] pos) (tE X af ag (chain g g' fa fb fc)):=(Fl ho mP ha hb hc hm).imp λ_ _ _ h=>tj h
end
def cS(h:List aj):PV->Option (Kd×List PV)
 | .nd k ps=>some (k,ps)
 | .ref n=>(h[n]?).bind λc=>if live c=true then some (c.k,c.ps)else none
 | _=>none
def bT{α:Type}{c:Prop} [Decidable c] {x:Option α} {y:α} (h:(if c then x else none)=some y):c/\x=some y:=by
 grind
def aE{α:Type}{c:Prop} [Decidable c] {x y:α} (h:(if c then some x else none)=some y):c/\x=y:=by
 grind
section
variable {K:W.Frag} {af H:Hp} {ag F:Fz} {st:bY} {σ:St}
def Rep.at(R:Rep K af ag F st σ H){p:PV}{k:Kd}{ps:List PV}{v:V}(e:cS st.h p=some (k,ps))(b:bj K F p v):∃a vs,v=.ref a/\kW K F.F H a false k vs/\ay K F ps vs:=by
 cases p with
 | nd k' vj =>
  cases e;obtain⟨a,vs,h1,h2,h3⟩:=iD.mp b;exact⟨a,vs,h1,h2.to (cw.refl _) (λo q=>R.sub _ _ q) id,h3⟩
 | ref n =>
  obtain⟨c,e1,e2⟩:=aO e;obtain⟨hl,e3⟩:=aE e2;cases e3;obtain⟨a,h1,h2⟩:=dm.mp b;obtain⟨_,vs,h3,h4⟩:=R.c.cell n c a e1 h1 hl;exact⟨a,vs,h2,h3.to (cw.refl _) (λo q=>q) (λz=>by cases z),h4⟩
 | _=>cases e
def FI(h:List aj)(p:PV):Option (List PV):=match cS h p with
 | some (.au,ps)=>some ps
 | some (.lst,ps)=>some ps
 | _=>none
def Rep.seq(R:Rep K af ag F st σ H){p:PV}{ps:List PV}{v:V}(e:FI st.h p=some ps)(b:bj K F p v):∃a vs,v=.ref a/\(iC K H a vs\/iR K H a vs)/\ay K F ps vs:=by
 unfold FI at e;split at e
 ·rename_i z;cases e;obtain⟨a,vs,h1,h2,h3⟩:=R.at z b;exact⟨a,vs,h1,.inl h2.2,h3⟩
 ·rename_i z;cases e;obtain⟨a,vs,h1,h2,h3⟩:=R.at z b;exact⟨a,vs,h1,.inr h2,h3⟩
 ·cases e
def oo(h:List aj):PV->Option Bool
 | .aL=>some false
 | .bl b=>some b
 | .int i=>some (i != 0)
 | p=>match cS h p with
  | some (.au,ps)=>some !ps.isEmpty
  | some (.lst,ps)=>some !ps.isEmpty
  | some (.eQ false _,ps)=>some !ps.isEmpty
  | _=>none
def qB{ps:List PV}{vs:List V}(h:ay K F ps vs):ps.isEmpty=vs.isEmpty:=by
 cases ps with
 | nil=>rw[h.cx];rfl
 | cons p ps=>obtain⟨v,r,rfl,_,_⟩:=h.bV;rfl
def Rep.tru(R:Rep K af ag F st σ H){p:PV}{k:Bool}{v:V}(e:oo st.h p=some k)(b:bj K F p v):Jy K v H k:=by
 have more:(match cS st.h p with
  | some (.au,ps)=>some !ps.isEmpty
  | some (.lst,ps)=>some !ps.isEmpty
  | some (.eQ false _,ps)=>some !ps.isEmpty
  | _=>none)=some k->Jy K v H k:=λe=>by
  split at e
  ·rename_i z;cases e;obtain⟨a,vs,rfl,h2,h3⟩:=R.at z b;exact .inr (.inl ⟨vs,h2.2,by rw[qB h3]⟩)
  ·rename_i z;cases e;obtain⟨a,vs,rfl,h2,h3⟩:=R.at z b;exact .inl ⟨vs,iR.sq h2,by rw[qB h3]⟩
  ·rename_i z;cases e;obtain⟨a,vs,rfl,⟨kvs,h2,_,h4⟩,h3⟩:=R.at z b;refine .inr (.inr ⟨kvs,h2,?_⟩);rw[qB h3,<-h4,List.isEmpty_map]
  ·cases e
 cases p with
 | aL=>rw[cX.mp b];exact(aX e).symm
 | bl c=>rw[br.mp b];exact(aX e).symm
 | int i=>rw[aG.mp b];exact(aX e).symm
 | str x=>exact more e
 | ref n=>exact more e
 | fn x=>exact more e
 | nd k ps=>exact more e
end
section
variable {X:Cx} {af:Hp} {ag:Fz} {a b c e:Expr} {es rest:List Expr} {fa fb fc:Gx PV} {ga gb:Gx Bool} {ts:Gx (List PV)} {pos:Pos}
def vk(f:Gx PV):Gx Bool:=bnd f λp=>hp λh=>oo h p
def Tz(h:PE X e (tE X af ag fa))(he:∀iU,isTrue e X.env iU=(do let v <-iU;standAt e.pos;holding [v] (truthy v))):PT X e (tT X af ag (vk fa)) :=
 (Fp h he).imp λσ H Q ⟨F,st,R,h⟩=>⟨F,st,R,h.bnd λp v F1 st1 H1 R1 g1 b1 h1=>by
  obtain⟨k,e,z⟩:=h1.hp;exact⟨k,R1.tru e b1,z k H1 F1 R1 (Gr.refl _) rfl⟩⟩
def JS{op wK:CmpOp}{g g':G2}(ho:oV X (compareOp op) g)(mP:oV X (compareOp wK) g')(ha:PE X a (tE X af ag fa))(hb:PE X b (tE X af ag fb))(hc:PE X c (tE X af ag fc))
  (hm:lastMarks [op,wK] [b,c]=false):PT X (.Compare a [op,wK] [b,c] pos) (tT X af ag (toB (chain g g' fa fb fc))):=(Fm ho mP ha hb hc hm).imp λ_ _ _ h=>tj (toB_imp h)
def oq{α:Type}(gc:Gx Bool)(f g:Gx α):Gx α:=bnd gc λx=>if x=true then f else g
def vm{α β:Type}{rl:Fz->α->β->Prop}{f g:Gx α}{σ:St}{H:Hp}{Q:β->Hp->Prop}(h:tX X af ag rl (oq ga f g) σ H Q):tT X af ag ga σ H λc H1=>if c=true then tX X af ag rl f σ H1 Q else tX X af ag rl g σ H1 Q:=by
 obtain⟨F,st,R,h⟩:=h;refine⟨F,st,R,h.bnd λx y F1 st1 H1 R1 g1 b1 h1=>?_⟩
 cases b1;cases x with
 | true=>exact⟨F1,st1,R1,h1⟩
 | false=>exact⟨F1,st1,R1,h1⟩
def vn{α β:Type}{rl:Fz->α->β->Prop}{a:α}{b:β}{σ:St}{H:Hp}{Q:β->Hp->Prop}(h:tX X af ag rl (cA a) σ H Q)(hb:∀F,rl F a b):Q b H:=by
 obtain⟨F,st,R,h⟩:=h;exact h.cA b H F R (Gr.refl _) (hb F)
def xt{P P' Q Q':Prop}{c:Bool}(h:if c=true then P else Q)(h1:P->P')(h2:Q->Q'):if c=true then P' else Q':=by
 grind
def Bv{α β:Type}{rl:Fz->α->β->Prop}{f:Gx α}{σ:St}{H:Hp}{Q Q':β->Hp->Prop}(h:tX X af ag rl f σ H Q)(i:∀b H',Q b H'->Q' b H'):tX X af ag rl f σ H Q':=let ⟨F,st,R,h⟩:=h;⟨F,st,R,h.mono (Gr.refl _) i⟩
def TC(ha:PT X a (tT X af ag ga))(hb:PW X (.BoolOp .And (b::rest) pos) (tT X af ag gb)):PW X (.BoolOp .And (a::b::rest) pos) (tT X af ag (oq ga gb (cA false))) :=
 (NV ha hb).imp λσ H Q h=>Bv (vm h) λ_ _ z=>xt z id λz=>vn z λ_=>rfl
def Yo(ha:PT X a (tT X af ag ga))(hb:PW X (.BoolOp .Or (b::rest) pos) (tT X af ag gb)):PW X (.BoolOp .Or (a::b::rest) pos) (tT X af ag (oq ga (cA true) gb)) :=
 (SE ha hb).imp λσ H Q h=>Bv (vm h) λ_ _ z=>xt z (λz=>vn z λ_=>rfl) id
def JT(f:Gx Bool):Gx Bool:=bnd f λx=>cA !x
def TF(ha:PT X a (tT X af ag ga)):PT X (.UnaryOp .Not a pos) (tT X af ag (JT ga)):=(NW ha).imp λσ H Q ⟨F,st,R,h⟩=>⟨F,st,R,h.bnd λx y F1 st1 H1 R1 g1 b1 h1=>by
 cases b1;exact h1.cA _ H1 F1 R1 (Gr.refl _) rfl⟩
def OG(fa fb:Gx PV):Gx PV:=bnd fa λx=>bnd (hp λh=>oo h x) λk=>if k=true then fb else cA x
def WJ(fa fb:Gx PV):Gx PV:=bnd fa λx=>bnd (hp λh=>oo h x) λk=>if k=true then cA x else fb
def FJ{f g:PV->Gx PV}{ah:List (Addr×Obj)}{s:Shared}{σ:St}{H:Hp}{Q:VK}(ha:PE X a (tE X af ag fa))(I:Inv X ah σ H s)
  (h:tE X af ag (bnd fa λx=>bnd (hp λh=>oo h x) λk=>if k=true then f x else g x) σ H Q) :
  wpAny (model X.prog X.w) X.A (eval a X.env) (λv s1=>wpAny (model X.prog X.w) X.A (truthy v) (λk s2=>∃p xv F1 st1 H1,Inv X ah σ H1 s2/\RelV xv v/\Rep X.K af ag F1 st1 σ H1/\bj X.K F1 p xv/\Tx X af ag (bj X.K) F1 st1 (if k=true then f p else g p) σ Q) X.xe s1) X.xe s:=by
 obtain⟨F,st,R,h⟩:=h;refine thn (ha ah s σ H (λv H1=>∃F1 st1 p,Rep X.K af ag F1 st1 σ H1/\bj X.K F1 p v/\Tx X af ag (bj X.K) F1 st1 (bnd (hp λh=>oo h p) λk=>if k=true then f p else g p) σ Q) I
  ⟨F,st,R,h.bnd λp v F1 st1 H1 R1 g1 b1 h1=>⟨F1,st1,p,R1,b1,h1⟩⟩) λv s1 ⟨xv,H1,I1,r1,F1,st1,p,R1,b1,h1⟩=>?_
 obtain⟨k,e,z⟩:=At.hp (At.bnd h1);exact thn (Fo ah s1 σ H1 xv v (λk' H'=>k'=k/\H'=H1) I1 r1 ⟨k,R1.tru e b1,rfl,rfl⟩) <| by
  rintro c s2 ⟨H2,I2,ec,eh⟩
  subst ec eh;exact⟨p,xv,F1,st1,H2,I2,r1,R1,b1,z⟩
def Yp(ha:PE X a (tE X af ag fa))(hb:PE X (.BoolOp .Or (b::rest) pos) (tE X af ag fb)):PE X (.BoolOp .Or (a::b::rest) pos) (tE X af ag (WJ fa fb)):=λah s σ H Q I h =>
 BoolOp_or (thn (FJ ha I h) λv s1 z=>thn z <| by
  rintro k s2 ⟨p,xv,F1,st1,H1,I1,r1,R1,b1,z⟩
  cases k with
  | true=>exact⟨xv,H1,I1,r1,Tx.cA (z) _ H1 F1 R1 (Gr.refl _) b1⟩
  | false=>exact hb ah s2 σ H1 Q I1 ⟨F1,st1,R1,z⟩)
def TJ(ha:PE X a (tE X af ag fa))(hb:PE X (.BoolOp .And (b::rest) pos) (tE X af ag fb)):PE X (.BoolOp .And (a::b::rest) pos) (tE X af ag (OG fa fb)):=λah s σ H Q I h =>
 BoolOp_and (thn (FJ ha I h) λv s1 z=>thn z <| by
  rintro k s2 ⟨p,xv,F1,st1,H1,I1,r1,R1,b1,z⟩
  cases k with
  | false=>exact⟨xv,H1,I1,r1,Tx.cA (z) _ H1 F1 R1 (Gr.refl _) b1⟩
  | true=>exact hb ah s2 σ H1 Q I1 ⟨F1,st1,R1,z⟩)
def OH(fa:Gx PV):Gx PV:=bnd (toB fa) λx=>cA (.bl !x)
def TK(ha:PE X a (tE X af ag fa)):PE X (.UnaryOp .Not a pos) (tE X af ag (OH fa)):=(NX ha).imp λσ H Q ⟨F,st,R,h⟩ =>
 toB_imp ⟨F,st,R,h.bnd λx y F1 st1 H1 R1 g1 b1 h1=>by
  cases b1;exact h1.cA _ H1 F1 R1 (Gr.refl _) (br.mpr rfl)⟩
def Yq(hc:PT X c (tT X af ag ga))(ha:PE X a (tE X af ag fa))(hb:PE X b (tE X af ag fb)):PE X (.IfExp c a b pos) (tE X af ag (oq ga fa fb)):=(E6 hc ha hb).imp λ_ _ _ h=>vm h
def iV(f:Gx PV)(g:Gx (List PV)):Gx (List PV):=bnd f λx=>bnd g λxs=>cA (x::xs)
def TL:PA X [] (tA X af ag (cA [])):=qp.imp λσ H Q h=>vn h λ_=>.nil
def OI(ha:PE X e (tE X af ag fa))(hr:PA X es (tA X af ag ts))(hs:starEach (e::es) X.env=(false,eval e X.env)::starEach es X.env:=by rfl):PA X (e::es) (tA X af ag (iV fa ts)) :=
 (gV ha hr hs).imp (by rintro σ H Q ⟨F,st,R,h⟩;exact⟨F,st,R,h.bnd λp v F1 st1 H1 R1 g1 b1 h1=>⟨F1,st1,R1,h1.bnd λps vs F2 dG H2 R2 g2 b2 h2=>h2.cA _ H2 F2 R2 (Gr.refl _) (.cons (b1.mono g2) b2)⟩⟩)
noncomputable def ic:Nat:=4000000
def dY{n:Nat}(h:n<=ic):n<=sizeLine:=aY h (by decide)
def small(ps:List PV)(p:PV):Option PV:=if ps.length<=ic then some p else none
def OJ(k:Kd)(ts:Gx (List PV)):Gx PV:=bnd ts λps=>jT (small ps (.nd k ps))
def TM{x1}(h:PA X es (tA X af ag ts)):PE X (.Tuple es x1 pos) (tE X af ag (OJ .au ts)):=(Oq h).imp λσ H Q ⟨F,st,R,h⟩=>⟨F,st,R,h.bnd λps vs F1 st1 H1 R1 g1 b1 h1=>by
 obtain⟨p,e,z⟩:=h1.jT;obtain⟨hl,rfl⟩:=aE e;refine⟨dY (by rw[<-b1.length];exact hl),λa hn=>?_⟩
 obtain⟨R2,s2⟩:=R1.laid (.au vs) hn;exact z _ _ _ R2 s2 (bR.mpr ⟨a,vs,rfl,iC.of aA,b1.mono s2⟩)⟩
def TN(h:PA X es (tA X af ag ts)):PE X (.List es pos) (tE X af ag (OJ .lst ts)):=(Fu h).imp λσ H Q ⟨F,st,R,h⟩=>⟨F,st,R,h.bnd λps vs F1 st1 H1 R1 g1 b1 h1=>by
 obtain⟨p,e,z⟩:=h1.jT;obtain⟨hl,rfl⟩:=aE e;refine⟨dY (by rw[<-b1.length];exact hl),λa hn=>?_⟩
 obtain⟨R2,s2⟩:=R1.laid (.lst vs) hn;exact z _ _ _ R2 s2 (dA.mpr ⟨a,vs,rfl,iR.of aA,b1.mono s2⟩)⟩
noncomputable def jy(c:aj):Gx PV:=λst=>some (.ok (.ref st.h.length),⟨st.ρ,st.h++[c]⟩)
def Tx.jy{c:aj}{F:Fz}{st:bY}{σ:St}{H:Hp}{Q:VK}{p:Addr}{o:HO}{vs:List V}(h:Tx X af ag (bj X.K) F st (jy c) σ Q)(R:Rep X.K af ag F st σ H)(hp:H p=none)
  (hn:kW X.K F.F (cU H p o) p true c.k vs) (hb:ay X.K F c.ps vs):Q (.ref p) (cU H p o):=by
 obtain⟨r,h1,h2⟩:=h;cases h1;obtain⟨C,g,hm⟩:=R.c.alloc hp hn hb;exact h2 _ _ _ ⟨C,R.l.mono g⟩ g (dm.mpr ⟨p,hm,rfl⟩)
def Di(ts:Gx (List PV)):Gx PV:=bnd ts λps=>bnd (jT (small ps .aL)) λ_=>jy ⟨.lst,ps⟩
def OK(h:PA X es (tA X af ag ts)):PE X (.List es pos) (tE X af ag (Di ts)):=(Fu h).imp λσ H Q ⟨F,st,R,h⟩=>⟨F,st,R,h.bnd λps vs F1 st1 H1 R1 g1 b1 h1=>by
 obtain⟨p,e,z⟩:=At.jT (At.bnd h1);obtain⟨hl,rfl⟩:=aE e;exact⟨dY (by rw[<-b1.length];exact hl),λa hn=>Tx.jy z R1 hn aA b1⟩⟩
end
inductive dB where
 | nx | bk | ct | rt (p:PV)
def xu(X:Cx)(af:Hp)(ag F:Fz)(D:xb):dB->bY->Prop
 | .nx,st=>∀F' bG H',Rep X.K af ag F' st bG H'->Gr F F'->D.nx bG H'
 | .bk,st=>∀F' bG H',Rep X.K af ag F' st bG H'->Gr F F'->D.bk bG H'
 | .ct,st=>∀F' bG H',Rep X.K af ag F' st bG H'->Gr F F'->D.ct bG H'
 | .rt p,st=>∀v F' H',lH X.K af ag F' st.h H'->Gr F F'->bj X.K F' p v->D.rt v H'
def Sa(X:Cx)(af:Hp)(ag F:Fz)(D:xb)(st:bY)(f:Gx dB):Prop:=At X af ag F st f (xu X af ag F D)
def tS(X:Cx)(af:Hp)(ag:Fz)(f:Gx dB):TS:=λD σ H=>∃F st,Rep X.K af ag F st σ H/\Sa X af ag F D st f
section
variable {X:Cx} {af:Hp} {ag F F1:Fz} {D:xb} {st:bY} {α β:Type}
theorem xu.mono(g:Gr F F1):∀(o:dB) (st:bY),xu X af ag F D o st->xu X af ag F1 D o st
 | .nx,_,h=>λF' bG H' R z=>h F' bG H' R (g.trans z)
 | .bk,_,h=>λF' bG H' R z=>h F' bG H' R (g.trans z)
 | .ct,_,h=>λF' bG H' R z=>h F' bG H' R (g.trans z)
 | .rt _,_,h=>λv F' H' R z=>h v F' H' R (g.trans z)
def Sa.mono(h:Sa X af ag F D st f)(g:Gr F F1):Sa X af ag F1 D st f:=At.imp h g (xu.mono g)
def Sa.bnd(h:Sa X af ag F D st (bnd f k))
  (i:∀a b F1 st1 H1,Rep X.K af ag F1 st1 σ H1->Gr F F1->rl F1 a b->Sa X af ag F1 D st1 (k a)->Q b H1):Tx X af ag rl F st f σ Q :=
 At.imp (At.bnd h) (Gr.refl F) λa st1 q b H1 F1 R1 g1 r1=>i a b F1 st1 H1 R1 g1 r1 (Sa.mono q g1)
end
section
variable {X:Cx} {af:Hp} {ag:Fz} {a b c e tg iter:Expr} {es:List Expr} {fe:Gx PV} {gc:Gx Bool} {pos:Pos} {s:Stmt} {ss body:List Stmt} {f g fb:Gx dB}
def onK(g:Gx dB):dB->Gx dB
 | .nx=>g
 | .bk=>cA .bk
 | .ct=>cA .ct
 | .rt p=>cA (.rt p)
def qC(f g:Gx dB):Gx dB:=bnd f (onK g)
def OL:PSs X [] (tS X af ag (cA .nx)):=Jj.imp (by rintro D σ H ⟨F,st,R,h⟩;exact At.cA h F σ H R (Gr.refl F))
def JU(h1:PS X s (tS X af ag f))(h2:PSs X ss (tS X af ag g)):PSs X (s::ss) (tS X af ag (qC f g)):=(E7 h1 h2).imp λD σ H ⟨F,st,R,h⟩ =>
 ⟨F,st,R,At.imp (At.bnd h) (Gr.refl F) λo st1 q=>match o,q with
  | .nx,q=>λF1 iE H1 R1 g1=>⟨F1,st1,R1,Sa.mono q g1⟩
  | .bk,q=>λF' bG H'=>At.cA q F' bG H'
  | .ct,q=>λF' bG H'=>At.cA q F' bG H'
  | .rt p,q=>λv F' H'=>At.cA q v F' H'⟩
def OM(h1:PS X s (tS X af ag f)):PSs X [s] (tS X af ag f):=Jk h1
def ON:PS X (.Pass pos) (tS X af ag (cA .nx)):=Jl.imp (by rintro D σ H ⟨F,st,R,h⟩;exact At.cA h F σ H R (Gr.refl F))
def JV:PS X (.Break pos) (tS X af ag (cA .bk)):=E8.imp (by rintro D σ H ⟨F,st,R,h⟩;exact At.cA h F σ H R (Gr.refl F))
def OO:PS X (.Continue pos) (tS X af ag (cA .ct)):=xc.imp (by rintro D σ H ⟨F,st,R,h⟩;exact At.cA h F σ H R (Gr.refl F))
def FK(fe:Gx PV):Gx dB:=bnd fe λp=>cA (.rt p)
def Mw(he:PE X e (tE X af ag fe)):PS X (.Return (some e) pos) (tS X af ag (FK fe)):=(N0 he).imp (by rintro D σ H ⟨F,st,R,h⟩;exact⟨F,st,R,h.bnd λp v F1 st1 H1 R1 g1 b1 h1=>At.cA h1 v F1 H1 R1.c (Gr.refl _) b1⟩)
def OP:PS X (.Return none pos) (tS X af ag (cA (.rt .aL))):=Jn.imp (by rintro D σ H ⟨F,st,R,h⟩;exact At.cA h _ F H R.c (Gr.refl _) (cX.mpr rfl))
def Yr(hc:PT X c (tT X af ag gc))(ha:PSs X p (tS X af ag f))(hb:PSs X r (tS X af ag g)):PS X (.If c p r pos) (tS X af ag (oq gc f g)) :=
 (SK hc ha hb).imp λD σ H ⟨F,st,R,h⟩=>⟨F,st,R,h.bnd λx y F1 st1 H1 R1 g1 b1 h1=>by
  cases b1;cases x with
  | true=>exact⟨F1,st1,R1,h1⟩
  | false=>exact⟨F1,st1,R1,h1⟩⟩
def Bw(fe:Gx PV):Gx dB:=bnd fe λ_=>cA .nx
def OQ(he:PE X e (tE X af ag fe))(hs:swapsWith e none pos.line X.env=pure false:=by rfl):PS X (.Expr e pos) (tS X af ag (Bw fe)):=(Jm he hs).imp λD σ H ⟨F,st,R,h⟩ =>
 ⟨F,st,R,h.bnd λp v F1 st1 H1 R1 g1 b1 h1=>At.cA h1 F1 σ H1 R1 (Gr.refl _)⟩
abbrev Tg:=PV->bY->Option bY
abbrev RP:=List PV->bY->Option bY
def tG(K:W.Frag)(af:Hp)(ag:Fz)(g:Tg):TG:=λv σ H Q=>∃F st p st',Rep K af ag F st σ H/\bj K F p v/\g p st=some st'/\∀bG H' F',Rep K af ag F' st' bG H'->Gr F F'->Q bG H'
def TQ(K:W.Frag)(af:Hp)(ag:Fz)(g:RP):Mn:=λvs σ H Q=>∃F st ps st',Rep K af ag F st σ H/\ay K F ps vs/\g ps st=some st'/\∀bG H' F',Rep K af ag F' st' bG H'->Gr F F'->Q bG H'
noncomputable def dh(i:Nat):Tg:=λp st=>if i<st.ρ.length then some ⟨st.ρ.set i (some p),st.h⟩else none
def Lc.set{K:W.Frag}(L:Lc K F ρ σ)(hi:i<ρ.length)(hb:bj K F p v):Lc K F (ρ.set i (some p)) (σ.set i (some v)) where
 av:=λj q e=>by
  by_cases h:i=j
  ·subst h;rw[ux hi]at e;cases e;exact⟨v,ux (by rw[<-L.len];exact hi),hb⟩
  ·rw[bW h]at e;rw[bW h];exact L.av j q e
 len:=by rw[gB,gB];exact L.len
def OR(i:Nat)(h:PG X (.Name x pos) (gName i)):PG X (.Name x pos) (tG X.K af ag (dh i)):=h.imp <| by
 rintro v σ H Q ⟨F,st,p,st',R,hb,hf,q⟩
 obtain⟨hi,rfl⟩:=aE hf;exact q _ _ _ ⟨R.c,R.l.set hi hb⟩ (Gr.refl F)
noncomputable def Dj:RP:=λps st=>match ps with | []=>some st | _=>none
noncomputable def qD(g:Tg)(r:RP):RP:=λps st=>match ps with | p::ps=>(g p st).bind λst'=>r ps st' | []=>none
def OS:PGs X [] (TQ X.K af ag Dj):=Jp.imp <| by
 rintro vs σ H Q ⟨F,st,ps,st',R,hb,hf,q⟩
 cases ps with
 | nil=>cases hf;exact⟨hb.cx,q _ _ _ R (Gr.refl F)⟩
 | cons _ _=>cases hf
def JW(h1:PG X e (tG X.K af ag t))(h2:PGs X es (TQ X.K af ag u))(hs:(assignEach (e::es) X.env).map (·.2)=assign e X.env::(assignEach es X.env).map (·.2):=by rfl) :
  PGs X (e::es) (TQ X.K af ag (qD t u)):=(Fc h1 h2 hs).imp <| by
 rintro vs σ H Q ⟨F,st,ps,st',R,hb,hf,q⟩
 cases ps with
 | nil=>cases hf
 | cons p ps =>
  obtain⟨v,r,rfl,b1,b2⟩:=hb.bV;obtain⟨st1,e1,e2⟩:=aO hf;exact⟨v,r,rfl,F,st,p,st1,R,b1,e1,λiE H1 F1 R1 s1=>⟨F1,st1,ps,st',R1,b2.mono s1,e2,λBo H2 F2 R2 s2=>q Bo H2 F2 R2 (s1.trans s2)⟩⟩
def _root_.L2.Inv.lZ{s:Shared}{a:Addr}(I:Inv X ah σ H s)(h:iR X.K H a xs):∃(ax:List Value) (n:Nat),Vals xs ax/\s.heap.get? a=some {cls:=.type "list",data:=.seq ax.toArray n}/\xs.length<=sizeLine:=by
 rcases h with h | ⟨ax,n,e,z,r⟩
 ·obtain⟨z,ax,n,r,e⟩:=h.ok I.hok;exact⟨ax,n,r,e,z⟩
 ·exact⟨ax,n,r,I.og a _ e,by rw[r.length];exact z⟩
def OT{es:List Expr}{k:Nat}{t:Mn}{n:Nat}(hc:X.calm=true)(h:PGs X es t)
 (hn:(assignEach es X.env).length=n:=by rfl) (rS:(assignEach es X.env).findIdx? (·.1)=none:=by rfl):PG X (.Tuple es k pos) (λv σ H Q=>∃a xs,v=.ref a/\iR X.K H a xs/\xs.length=n/\t xs σ H Q):=by
 intro ah s σ H v u Q I r hw;obtain⟨a,xs,e1,hq,hl,hw⟩:=hw;subst e1;cases r;obtain⟨ax,m,rv,e,hz⟩:=I.lZ hq;rw[PyProof.Rows.assign_Tuple];refine ai (uQ ?_);unfold unpack;rw[show(assignEach es X.env).length=ax.toArray.size by simp[hn,<-hl,rv.length],rS]
 refine ai (dU (W.kun_itemsOf (I.ok.hd hc) ⟨_,e,rfl,_,rfl⟩ λh' hx=>?_))
 have I1:=I.kept (t':=s.toks) λb o e=>hx b o (bC (aH e)) e
 exact h ah _ σ H xs _ Q I1 (by grind) hw
noncomputable def Ae(n:Nat)(t:RP):Tg:=λp st=>match p with | .nd .au ps=>if ps.length=n then t ps st else none | .nd .lst ps=>if ps.length=n then t ps st else none | _=>none
def TR(hc:X.calm=true)(h:PGs X es (TQ X.K af ag t))(hn:(assignEach es X.env).length=n:=by rfl)(rS:(assignEach es X.env).findIdx? (·.1)=none:=by rfl) :
  PG X (.Tuple es k pos) (tG X.K af ag (Ae n t)):=by
 rintro ah s σ H v u Q I r ⟨F,st,p,st',R,hb,hf,q⟩
 unfold Ae at hf;split at hf
 ·obtain⟨hl,hf⟩:=bT hf;obtain⟨a,vs,rfl,hs,qE⟩:=bR.mp hb;exact N1 hc h hn rS ah s σ H _ u Q I r ⟨a,vs,rfl,cZ R.sub hs,by rw[<-qE.length];exact hl,F,st,_,st',R,qE,hf,q⟩
 ·obtain⟨hl,hf⟩:=bT hf;obtain⟨a,vs,rfl,hs,qE⟩:=dA.mp hb;exact OT hc h hn rS ah s σ H _ u Q I r ⟨a,vs,rfl,jx R.sub hs,by rw[<-qE.length];exact hl,F,st,_,st',R,qE,hf,q⟩
 ·cases hf
noncomputable def stp(g:bY->Option bY):Gx dB:=λst=>(g st).map λst'=>(.ok .nx,st')
def Sa.stp{st:bY}{g:bY->Option bY}(h:Sa X af ag F D st (stp g)):∃st',g st=some st'/\∀F' bG H',Rep X.K af ag F' st' bG H'->Gr F F'->D.nx bG H':=by
 obtain⟨r,h1,h2⟩:=h;obtain⟨st',e1,e2⟩:=aP h1;subst e2;exact⟨st',e1,h2⟩
def l4(fe:Gx PV)(g:Tg):Gx dB:=bnd fe λp=>stp (g p)
def JX{g:Tg}(h:tS X af ag (l4 fe g) D σ H):Jq (tE X af ag fe) (tG X.K af ag g) D σ H:=by
 obtain⟨F,st,R,h⟩:=h;refine⟨F,st,R,h.bnd λp v F1 st1 H1 R1 g1 b1 h1=>?_⟩
 obtain⟨st',e,z⟩:=h1.stp;exact⟨F1,st1,p,st',R1,b1,e,λBo H2 F2 R2 s2=>z F2 Bo H2 R2 s2⟩
def TU{g:Tg}(he:PE X e (tE X af ag fe))(hg:PG X tg (tG X.K af ag g))(hs:swapsWithSole [tg] e pos.line X.env=pure false:=by rfl)(hw:swappedStores [tg] e X.env=pure none:=by rfl)
  (h1:(assignEach [tg] X.env).map (·.2)=[assign tg X.env]:=by rfl):PS X (.Assign [tg] e pos) (tS X af ag (l4 fe g)):=(Fd he hg hs hw h1).imp λ_ _ _ h=>JX h
def Walk(K:W.Frag)(F:Fz)(ps:List PV)(J:It):Prop:=∀(af:Hp) (ag F':Fz) (st:bY) (σ:St) (H:Hp),Rep K af ag F' st σ H->Gr F F'->∀i:Nat,
 (∀p,ps[i]?=some p->J.go i H/\∀x H',J.yld i H x H'->∃FL,Rep K af ag FL st σ H'/\Gr F' FL/\bj K FL p x)/\(ps[i]?=none->J.stop i H)
abbrev tI(X:Cx)(af:Hp)(ag:Fz)(f:Gx (List PV)):TI:=tX X af ag (Walk X.K) f
def qF(r:Gx dB):dB->Gx dB
 | .nx=>r
 | .ct=>r
 | .bk=>cA .nx
 | .rt p=>cA (.rt p)
def fS(g:Tg)(body:Gx dB):List PV->Gx dB
 | []=>cA .nx
 | p::ps=>bnd (stp (g p)) λ_=>bnd body (qF (fS g body ps))
def Sa.qf{st:bY}(N:St->Hp->Prop)(hN:∀F1 st1 iE H1,Rep X.K af ag F1 st1 iE H1->Gr F F1->Sa X af ag F1 D st1 r->N iE H1)(h:Sa X af ag F D st (U.bnd fb (qF r))):Sa X af ag F {D with nx:=N,ct:=N,bk:=D.nx} st fb :=
 At.imp (At.bnd h) (Gr.refl F) λo st1 q=>match o,q with
  | .nx,q=>λF1 iE H1 R1 g1=>hN F1 st1 iE H1 R1 g1 (Sa.mono q g1)
  | .ct,q=>λF1 iE H1 R1 g1=>hN F1 st1 iE H1 R1 g1 (Sa.mono q g1)
  | .bk,q=>λF' bG H'=>At.cA q F' bG H'
  | .rt p,q=>λv F' H'=>At.cA q v F' H'
def k9(gc:Gx Bool)(body:Gx dB):Nat->Gx dB
 | 0=>λ_=>none
 | n+1=>bnd gc λc=>if c=true then bnd body (qF (k9 gc body n))else cA .nx
def JY(n:Nat)(hp:PassesOwn (model X.prog X.w) X.A X.env X.xe)(hc:PT X c (tT X af ag gc))(hb:PSs X body (tS X af ag fb)):PS X (.While c body [] pos) (tS X af ag (k9 gc fb n)) :=
 (Fe hp hc hb).imp <| by
 rintro D σ H ⟨F,st,R,h⟩
 refine⟨λm bG H'=>∃F' st',Rep X.K af ag F' st' bG H'/\Sa X af ag F' D st' (k9 gc fb m),⟨n,F,st,R,h⟩,λm bG H' ⟨F',st',R',h'⟩=>?_⟩
 cases m with
 | zero=>obtain⟨r,e,_⟩:=h';cases e
 | succ m =>
  refine⟨F',st',R',Sa.bnd h' λx y F1 st1 H1 R1 g1 b1 h1=>?_⟩
  cases b1;cases x with
  | false=>exact At.cA h1 F1 bG H1 R1 (Gr.refl _)
  | true=>exact⟨λBo H2=>∃F2 dG,Rep X.K af ag F2 dG Bo H2/\Sa X af ag F2 D dG (k9 gc fb m),λBo H2 n2=>⟨m,pF m,n2⟩,F1,st1,R1,Sa.qf _ (λF4 Eo Mx H4 R4 g4 z=>⟨F4,Eo,R4,z⟩) h1⟩
end
def sizeOk(n:Nat)(p:PV):Option PV:=if n<=ic then some p else none
def jz(h:sizeOk n p=some q):n<=sizeLine/\p=q:=by
 obtain⟨h1,h2⟩:=aE h;exact⟨dY h1,h2⟩
def vo(h:List aj)(p:PV):Option (List PV):=match cS h p with | some (.lst,ps)=>some ps | _=>none
def fJ(e:vo h p=some ps):cS h p=some (.lst,ps):=by
 unfold vo at e;split at e
 ·grind
 ·cases e
def gh:G2:=λh p q=>match p,q with
 | .int i,.int j=>some (.int (i+j))
 | .str x,.str y=>sizeOk (x.length+y.length) (.str (x++y))
 | .nd .au xs,.nd .au ys=>sizeOk (xs.length+ys.length) (.au (xs++ys))
 | p,q=>(vo h p).bind λxs=>(vo h q).bind λys=>sizeOk (xs.length+ys.length) (.lst (xs++ys))
noncomputable def nA(c:Int->Int->Bool)(f:Int->Int->PV):G2:=λ_ p q=>match p,q with
 | .int i,.int j=>if c i j=true then some (f i j)else none
 | _,_=>none
noncomputable def ot:Int:=18446744073709551616
def OU:G2:=nA (λ_ _=>true) λi j=>.int (i-j)
def TV:G2:=nA (λi j=>decide ((-ot<i/\i<ot)\/(-ot<j/\j<ot))) λi j=>.int (i*j)
def gI:G2:=nA (λ_ j=>decide (0<j/\j<1073741824)) λi j=>.int (i/j)
def cB:G2:=nA (λ_ j=>decide (0<j)) λi j=>.int (i%j)
def OW:G2:=nA (λi j=>decide (0<=j/\j<=1000/\i.natAbs<1000)) λi j=>.int (i^j.toNat)
def TX:G2:=nA (λ_ _=>true) λi j=>.bl (decide (i<j))
def leO:G2:=nA (λ_ _=>true) λi j=>.bl (decide (i<=j))
def WK:G2:=nA (λ_ _=>true) λi j=>.bl (decide (j<=i))
section
variable {X:Cx}
def FN{ws:List Value}(ht:IsTup s.heap t ([]:List Value).toArray)(hb:IsTup s.heap b ws.toArray)(h1:Q (.ref b) s):wpAny (model prog w) A (binaryOp .Add (.ref t) (.ref b)) Q E s:=by
 obtain⟨⟨cls,dd,data,sl⟩,ho,hc,n,hd⟩:=id ht;obtain⟨⟨X8,WC,S8,WD⟩,Ou,Ov,n2,hd2⟩:=id hb;simp only at hc hd Ov hd2;subst hc hd Ov hd2;exact concat_meets ⟨_,ho,rfl⟩ ⟨_,Ou,rfl⟩ zq seq_tuple_add yX yV (yQ _ _) (tuple_addW0 t b _ ws.toArray n n2 dd WC sl WD (by simp)) ⟨ho,Ou,h1⟩
def JZ:oV X (binaryOp .Add) gh:=by
 rintro ah s σ H x y v u Q I rx ry ⟨af,ag,F,st,τ,pa,pb,p,e,R,ba,bb,k⟩
 unfold gh at e;split at e
 ·cases e;rw[aG.mp ba]at rx;rw[aG.mp bb]at ry;exact Oc ah s σ H _ _ v u Q I rx ry ⟨_,_,rfl,rfl,k _ H F R (Gr.refl F) (aG.mpr rfl)⟩
 ·obtain⟨hz,rfl⟩:=jz e;rw[bN.mp ba]at rx;rw[bN.mp bb]at ry;exact zV ah s σ H _ _ v u Q I rx ry ⟨_,_,rfl,rfl,hz,k _ H F R (Gr.refl F) (bN.mpr rfl)⟩
 ·rename_i xs ys;obtain⟨hz,rfl⟩:=jz e;obtain⟨a,vs,rfl,ha,gW⟩:=bR.mp ba;obtain⟨b,ws,rfl,hb,ID⟩:=bR.mp bb;have TY:=cZ R.sub ha;have jS:=cZ R.sub hb;cases xs with
  | nil =>
   rw[gW.cx]at TY;cases rx;cases ry;obtain⟨ax,r1,p1,_⟩:=I.tuple TY;obtain⟨eK,r2,p2,_⟩:=I.tuple jS;cases r1;exact FN p1 p2 ⟨.ref b,H,I,rfl,k _ H F R (Gr.refl F) (bR.mpr ⟨b,ws,rfl,hb,ID⟩)⟩
  | cons x0 xr =>
   refine JI ah s σ H _ _ v u Q I rx ry ⟨a,b,vs,ws,rfl,rfl,TY,jS,?_,by rw[<-gW.length,<-ID.length];exact hz,λz=>?_,λz q hq=>?_⟩
   ·intro z;have:=gW.length;rw[z]at this;cases this
   ·subst z;have hy:=uq ID.length;subst hy;rw[cY]at k;exact k _ H F R (Gr.refl F) (bR.mpr ⟨a,vs,rfl,ha,gW⟩)
   ·obtain⟨R2,s2⟩:=R.laid (.au (vs++ws)) hq;exact k _ _ _ R2 s2 (bR.mpr ⟨q,_,rfl,iC.of aA,(gW.append ID).mono s2⟩)
 ·obtain⟨xs,e1,e⟩:=aO e;obtain⟨ys,e2,e⟩:=aO e;obtain⟨hz,rfl⟩:=jz e;obtain⟨a,vs,rfl,ha,gW⟩:=R.at (fJ e1) ba;obtain⟨b,ws,rfl,hb,ID⟩:=R.at (fJ e2) bb;cases rx;cases ry;obtain⟨ax,n,r,e1,z1⟩:=I.lZ ha;obtain⟨eK,n2,r2,e2,z2⟩:=I.lZ hb;have hl:=r.length;have WL:=r2.length;have Ys:vs.length+ws.length<=sizeLine:=by rw[<-gW.length,<-ID.length];exact hz
  refine PySem.P.add_list e1 e2 ?_ (by grind)
  have ea:ax.toArray++eK.toArray=(ax++eK).toArray:=by simp
  rw[ea];obtain⟨R2,s2⟩:=R.laid (.lst (vs++ws)) I.fresh;exact⟨.ref _,_,I.OD (r.append r2) (by grind),rfl,k _ _ _ R2 s2 (dA.mpr ⟨_,_,rfl,iR.of aA,(gW.append ID).mono s2⟩)⟩
def eX(ho:OpR X f (rI C h))(hc:∀i j,c i j=true->C i j)(hg:∀i j F,bj X.K F (g i j) (h i j)):oV X f (nA c g):=by
 rintro ah s σ H x y v u Q I rx ry ⟨af,ag,F,st,τ,pa,pb,p,e,R,ba,bb,k⟩
 unfold nA at e;split at e
 ·obtain⟨h1,rfl⟩:=aE e;rw[aG.mp ba]at rx;rw[aG.mp bb]at ry;exact ho ah s σ H _ _ v u Q I rx ry ⟨_,_,rfl,rfl,hc _ _ h1,k _ H F R (Gr.refl F) (hg _ _ F)⟩
 ·cases e
def tm(ho:OpR X f (IB h)):OpR X f (rI (λ_ _=>True) h):=(by rintro ah s σ H x y v u Q I rx ry ⟨i,j,h1,h2,_,q⟩;exact ho ah s σ H x y v u Q I rx ry ⟨i,j,h1,h2,q⟩)
end
def OX:Operator->Option G2
 | .Add=>some gh
 | .Sub=>some OU
 | .Mult=>some TV
 | .FloorDiv=>some gI
 | .Mod=>some cB
 | .Pow=>some OW
 | _=>none
def J0(h:OX op=some g):oV X (binaryOp op) g:=by
 unfold OX at h;split at h<;>cases h
 ·exact JZ
 ·exact eX (tm Od) (by grind) λ_ _ _=>aG.mpr rfl
 ·exact eX Oe (λi j e=>show(-ot<i/\i<ot)\/(-ot<j/\j<ot)from iy e) λ_ _ _=>aG.mpr rfl
 ·exact eX Jt (λ_ j e=>show 0<j/\j<1073741824 from iy e) λ_ _ _=>aG.mpr rfl
 ·exact eX Of (λ_ _ e=>iy e) λ_ _ _=>aG.mpr rfl
 ·exact eX Og (λ_ _ e=>let ⟨h1,h2,h3⟩:=iy e;⟨h1,by lia,jm h3 (by decide)⟩) λ_ _ _=>aG.mpr rfl
inductive Tr where
 | aL | bl (b:Bool) | int (i:Int) | str (x:Str) | au (xs:List Tr) | lst (xs:List Tr)
mutual
def eqT:Tr->Tr->Bool
 | .aL,.aL=>true
 | .bl a,.bl b=>a==b
 | .bl a,.int b=>(if a then 1 else 0)==b
 | .int a,.bl b=>a==(if b then 1 else 0)
 | .int a,.int b=>a==b
 | .str a,.str b=>a==b
 | .au xs,.au ys=>xw xs ys
 | .lst xs,.lst ys=>xw xs ys
 | _,_=>false
def xw:List Tr->List Tr->Bool
 | [],[]=>true
 | x::xs,y::ys=>eqT x y&&xw xs ys
 | _,_=>false
end
mutual
def dep:Tr->Nat
 | .au xs=>j4 xs+1
 | .lst xs=>j4 xs+1
 | _=>0
def j4:List Tr->Nat
 | []=>0
 | x::xs=>max (dep x) (j4 xs)
end
mutual
theorem fT:∀p:Tr,eqT p p=true
 | .aL=>rfl
 | .bl b=>f7 b
 | .int b=>f7 b
 | .str b=>f7 b
 | .au xs=>nB xs
 | .lst xs=>nB xs
theorem nB:∀ps:List Tr,xw ps ps=true
 | []=>rfl
 | x::xs=>ph.mpr ⟨fT x,nB xs⟩
end
theorem l7:∀{xs ys:List Tr},xs.length≠ys.length->xw xs ys=false
 | [],[],h=>absurd rfl h
 | [],_::_,_=>rfl
 | _::_,[],_=>rfl
 | x::xs,y::ys,h=>by show(eqT x y&&xw xs ys)=false;rw[l7 (by simpa using h),aS]
noncomputable def qG(xs ys:List Tr)(j:Nat):Bool:=match xs[j]?,ys[j]? with
 | some x,some y=>eqT x y
 | _,_=>true
theorem l8:∀{xs ys:List Tr},xs.length=ys.length->(List.range xs.length).all (qG xs ys)=xw xs ys
 | [],[],_=>rfl
 | [],_::_,h=>by cases h
 | _::_,[],h=>by cases h
 | x::xs,y::ys,h=>by
  have ih:=l8 (by simpa using h)
  rw[cq,List.range_succ_eq_map,jk,List.all_map];have e0:qG (x::xs) (y::ys) 0=eqT x y:=rfl;have e1:(qG (x::xs) (y::ys) ∘ Nat.succ)=qG xs ys:=by
   funext j
   simp[qG,Function.comp]
  rw[e0,e1,ih];rfl
def Bx(h1:xs.length=m)(h2:ys.length=n):((List.range (min m n)).all (qG xs ys)&&(m==n))=xw xs ys:=by
 subst h1 h2;by_cases h:xs.length=ys.length
 ·rw[<-h,Nat.min_self,l8 h];simp
 ·rw[l7 h];simp[h]
mutual
def dr(s:Shared):Tr->Value->Prop
 | .aL,u=>u=.none
 | .bl b,u=>u=.bool b
 | .int i,u=>∃t,u=.int i t
 | .str x,u=>∃t,u=.str x t
 | .au ts,u=>∃a ax,u=.ref a/\s.heap.IsTuple a ax.toArray/\b7 s ts ax
 | .lst ts,u=>∃a ax,u=.ref a/\s.heap.IsList a ax.toArray/\b7 s ts ax
def b7(s:Shared):List Tr->List Value->Prop
 | [],us=>us=[]
 | t::ts,us=>∃u r,us=u::r/\dr s t u/\b7 s ts r
end
section
variable {A:Around} {s:Shared}
theorem b7.len:∀{ts:List Tr} {us:List Value},b7 s ts us->ts.length=us.length
 | [],_,h=>by simp only[b7]at h;rw[h];rfl
 | _::_,_,h=>by
  simp only[b7]at h;obtain⟨u,r,rfl,_,h⟩:=h;simp[b7.len h]
def jR(h1:s.heap.IsTuple a x)(h2:s.heap.IsTuple a y):x=y:=by
 obtain⟨o,e,_,n,d⟩:=h1;obtain⟨o',e',_,n',d'⟩:=h2;rw[e]at e';cases e';rw[d]at d';cases d';rfl
def lP(h1:s.heap.IsList a x)(h2:s.heap.IsList a y):x=y:=by
 obtain⟨o,e,_,n,d⟩:=h1;obtain⟨o',e',_,n',d'⟩:=h2;rw[e]at e';cases e';rw[d]at d';cases d';rfl
def qH(h1:s.heap.IsTuple a x)(h2:s.heap.IsList a y):False:=by
 obtain⟨o,e,c,n,d⟩:=h1;obtain⟨o',e',c',n',d'⟩:=h2;rw[e]at e';cases e';rw[c]at c';simp at c'
mutual
theorem dr.inj:∀{p q:Tr} {u:Value},dr s p u->dr s q u->p=q
 | .aL,q,u,h,h'=>by cases q<;>simp_all [dr]
 | .bl b,q,u,h,h'=>by cases q<;>simp_all [dr]
 | .int b,q,u,h,h'=>by
  simp only[dr]at h;obtain⟨t,rfl⟩:=h;cases q<;>simp_all [dr]
 | .str b,q,u,h,h'=>by
  simp only[dr]at h;obtain⟨t,rfl⟩:=h;cases q<;>simp_all [dr]
 | .au xs,q,u,h,h'=>by
  simp only[dr]at h;obtain⟨a,ax,rfl,h1,h2⟩:=h;cases q with
  | au ys =>
   simp only[dr]at h';obtain⟨b,TZ,e,g1,g2⟩:=h';cases e;have:=jR h1 g1;have e:ax=TZ:=by simpa using this
   subst e;rw[b7.inj h2 g2]
  | lst ys =>
   simp only[dr]at h';obtain⟨b,TZ,e,g1,g2⟩:=h';cases e;exact(qH h1 g1).elim
  | _=>simp[dr]at h'
 | .lst xs,q,u,h,h'=>by
  simp only[dr]at h;obtain⟨a,ax,rfl,h1,h2⟩:=h;cases q with
  | lst ys =>
   simp only[dr]at h';obtain⟨b,TZ,e,g1,g2⟩:=h';cases e;have:=lP h1 g1;have e:ax=TZ:=by simpa using this
   subst e;rw[b7.inj h2 g2]
  | au ys =>
   simp only[dr]at h';obtain⟨b,TZ,e,g1,g2⟩:=h';cases e;exact(qH g1 h1).elim
  | _=>simp[dr]at h'
theorem b7.inj:∀{ps qs:List Tr} {us:List Value},b7 s ps us->b7 s qs us->ps=qs
 | [],qs,us,h,h'=>by
  simp only[b7]at h;subst h;cases qs with
  | nil=>rfl
  | cons _ _=>simp[b7]at h'
 | p::ps,qs,us,h,h'=>by
  simp only[b7]at h;obtain⟨u,r,rfl,h1,h2⟩:=h;cases qs with
  | nil=>simp[b7]at h'
  | cons q qs =>
   simp only[b7]at h';obtain⟨u',r',e,g1,g2⟩:=h';cases e;rw[dr.inj h1 g1,b7.inj h2 g2]
end
def qI(h:b=c)(r:SeqAt.RcAt A s u w b):SeqAt.RcAt A s u w c:=h▸r
def lb(h:b = !c)(r:SeqAt.RcNeAt A s u w b):SeqAt.RcNeAt A s u w (!c):=h▸r
def By(hf:∀x t,u≠.float x t)(h:SeqAt.RcAt A s u w b)(hb:u=w->b=true):SeqAt.EqAt A s u w b:=λprog v E Q hq=>by
 unfold eqBool;refine dU ?_;refine wpAny_ite_split (λz=>?_) (λ_=>?_)
 ·rw[hb (aV z)]at hq;exact ai (iB (ar hq))
 ·cases u with
  | float x t=>exact absurd rfl (hf x t)
  | _=>exact ai (h prog v E _ (ji hq))
def dr.My(h:dr s p u):∀y t,u≠.float y t:=λy t z=>by
 subst z;cases p<;>simp[dr]at h
mutual
theorem vp:∀(p q:Tr) (A:Around) (u w:Value),dr s p u->dr s q w->A.units+dep p<cLine->SeqAt.RcAt A s u w (eqT p q)/\SeqAt.RcNeAt A s u w (!(eqT p q))
 | .aL,q,A,u,w,ha,hb,hu=>by
  have gJ:A.units<cLine := ‹_›;subst ha;cases q with
  | aL=>cases hb;exact⟨.none_none,.none_none⟩
  | bl=>cases hb;exact⟨(.none_bool _),(.none_bool _)⟩
  | int=>obtain⟨t,rfl⟩:=hb;exact⟨(.none_int _ _),(.none_int _ _)⟩
  | str=>obtain⟨t,rfl⟩:=hb;exact⟨(.none_str _ _),(.none_str _ _)⟩
  | au=>obtain⟨a,ax,rfl,pR,_⟩:=hb;exact⟨(.none_tuple pR gJ),(.none_tuple pR gJ)⟩
  | lst=>obtain⟨a,ax,rfl,pR,_⟩:=hb;exact⟨(.none_list pR gJ),(.none_list pR gJ)⟩
 | .bl k,q,A,u,w,ha,hb,hu=>by
  have gJ:A.units<cLine := ‹_›;subst ha;cases q with
  | aL=>cases hb;exact⟨(.bool_none _),(.bool_none _)⟩
  | bl=>cases hb;exact⟨(.bool_bool _ _),(.bool_bool _ _)⟩
  | int=>obtain⟨t,rfl⟩:=hb;exact⟨(.bool_int _ _ _),(.bool_int _ _ _)⟩
  | str=>obtain⟨t,rfl⟩:=hb;exact⟨(.bool_str _ _ _),(.bool_str _ _ _)⟩
  | au=>obtain⟨a,ax,rfl,pR,_⟩:=hb;exact⟨(.bool_tuple _ pR gJ),(.bool_tuple _ pR gJ)⟩
  | lst=>obtain⟨a,ax,rfl,pR,_⟩:=hb;exact⟨(.bool_list _ pR gJ),(.bool_list _ pR gJ)⟩
 | .int k,q,A,u,w,ha,hb,hu=>by
  have gJ:A.units<cLine := ‹_›;obtain⟨tk,rfl⟩:=ha;cases q with
  | aL=>cases hb;exact⟨(.int_none _ _),(.int_none _ _)⟩
  | bl=>cases hb;exact⟨(.int_bool _ _ _),(.int_bool _ _ _)⟩
  | int=>obtain⟨t,rfl⟩:=hb;exact⟨(.int_int _ _ _ _),(.int_int _ _ _ _)⟩
  | str=>obtain⟨t,rfl⟩:=hb;exact⟨(.int_str _ _ _ _),(.int_str _ _ _ _)⟩
  | au=>obtain⟨a,ax,rfl,pR,_⟩:=hb;exact⟨(.int_tuple _ _ pR gJ),(.int_tuple _ _ pR gJ)⟩
  | lst=>obtain⟨a,ax,rfl,pR,_⟩:=hb;exact⟨(.int_list _ _ pR gJ),(.int_list _ _ pR gJ)⟩
 | .str k,q,A,u,w,ha,hb,hu=>by
  have gJ:A.units<cLine := ‹_›;obtain⟨tk,rfl⟩:=ha;cases q with
  | aL=>cases hb;exact⟨(.str_none _ _),(.str_none _ _)⟩
  | bl=>cases hb;exact⟨(.str_bool _ _ _),(.str_bool _ _ _)⟩
  | int=>obtain⟨t,rfl⟩:=hb;exact⟨(.str_int _ _ _ _),(.str_int _ _ _ _)⟩
  | str=>obtain⟨t,rfl⟩:=hb;exact⟨(.str_str _ _ _ _),(.str_str _ _ _ _)⟩
  | au=>obtain⟨a,ax,rfl,pR,_⟩:=hb;exact⟨(.str_tuple _ _ pR gJ),(.str_tuple _ _ pR gJ)⟩
  | lst=>obtain⟨a,ax,rfl,pR,_⟩:=hb;exact⟨(.str_list _ _ pR gJ),(.str_list _ _ pR gJ)⟩
 | .au xs,q,A,u,w,ha,hb,hu=>by
  have gJ:A.units<cLine:=by lia
  obtain⟨al,J1,rfl,pL,tL⟩:=ha;cases q with
  | aL=>cases hb;exact⟨(.tuple_none pL gJ),(.tuple_none pL gJ)⟩
  | bl=>cases hb;exact⟨(.tuple_bool _ pL gJ),(.tuple_bool _ pL gJ)⟩
  | int=>obtain⟨t,rfl⟩:=hb;exact⟨(.tuple_int _ _ pL gJ),(.tuple_int _ _ pL gJ)⟩
  | str=>obtain⟨t,rfl⟩:=hb;exact⟨(.tuple_str _ _ pL gJ),(.tuple_str _ _ pL gJ)⟩
  | lst=>obtain⟨a,ax,rfl,pR,_⟩:=hb;exact⟨(.tuple_list pL pR gJ),(.tuple_list pL pR gJ)⟩
  | au ys =>
   obtain⟨a,J2,rfl,pR,tR⟩:=hb;have e1:xs.length=J1.toArray.size:=by rw[cC,tL.len]
   have e2:ys.length=J2.toArray.size:=by rw[cC,tR.len]
   have el:=λj (h1:j<J1.toArray.size) (h2:j<J2.toArray.size)=>vq xs ys A.in1 J1 J2 tL tR (by rw[uH];have hu:_+(j4 _+1)<_:=hu;lia) j (by simpa using h1) (by simpa using h2)
   exact⟨qI (Bx e1 e2) (.tuples pL pR gJ el),lb (by rw[Bx e1 e2];rfl) (.tuples pL pR gJ el)⟩
 | .lst xs,q,A,u,w,ha,hb,hu=>by
  have gJ:A.units<cLine:=by lia
  obtain⟨al,J1,rfl,pL,tL⟩:=ha;cases q with
  | aL=>cases hb;exact⟨(.list_none pL gJ),(.list_none pL gJ)⟩
  | bl=>cases hb;exact⟨(.list_bool _ pL gJ),(.list_bool _ pL gJ)⟩
  | int=>obtain⟨t,rfl⟩:=hb;exact⟨(.list_int _ _ pL gJ),(.list_int _ _ pL gJ)⟩
  | str=>obtain⟨t,rfl⟩:=hb;exact⟨(.list_str _ _ pL gJ),(.list_str _ _ pL gJ)⟩
  | au=>obtain⟨a,ax,rfl,pR,_⟩:=hb;exact⟨(.list_tuple pL pR gJ),(.list_tuple pL pR gJ)⟩
  | lst ys =>
   obtain⟨a,J2,rfl,pR,tR⟩:=hb;have e1:J1.toArray.size=xs.length:=by rw[cC,tL.len]
   have e2:J2.toArray.size=ys.length:=by rw[cC,tR.len]
   by_cases hl:xs.length=ys.length
   ·have sz:J1.toArray.size=J2.toArray.size:=by rw[e1,e2];exact hl
    have el:=λj (h1:j<J1.toArray.size) (h2:j<J2.toArray.size)=>vq xs ys A.in1 J1 J2 tL tR (by rw[uH];have hu:_+(j4 _+1)<_:=hu;lia) j (by simpa using h1) (by simpa using h2)
    exact⟨qI (by rw[e1,l8 hl];rfl) (.lists pL pR sz gJ el),lb (by rw[e1,l8 hl];rfl) (.lists pL pR sz gJ el)⟩
   ·have sz:(J1.toArray.size != J2.toArray.size)=true:=by rw[e1,e2];simpa using hl
    exact⟨qI (l7 hl).symm (.lists_lengths pL pR sz gJ),lb (eU not (l7 hl)).symm (.lists_lengths pL pR sz gJ)⟩
theorem vq:∀(ps qs:List Tr) A (us zs:List Value),b7 s ps us->b7 s qs zs->A.units+j4 ps<cLine ->
  ∀j h1 (h2:j<zs.length),SeqAt.EqAt A s us[j] zs[j] (qG ps qs j)
 | [],qs,A,us,zs,b1,b2,hu=>λj h1 h2=>by
  simp only[b7]at b1;subst b1;cases h1
 | p::ps,qs,A,us,zs,b1,b2,hu=>λj h1 h2=>by
  simp only[b7]at b1;obtain⟨u,ur,rfl,c1,d1⟩:=b1;cases qs with
  | nil =>
   simp only[b7]at b2;subst b2;cases h2
  | cons q qs =>
   simp only[b7]at b2;obtain⟨z,zr,rfl,c2,d2⟩:=b2;have hm:A.units+dep p<cLine/\A.units+j4 ps<cLine:=by
    simp only[j4]at hu
    lia
   cases j with
   | zero =>
    refine By c1.My (vp p q A _ _ c1 c2 hm.1).1 λe=>?_
    simp only[List.getElem_cons_zero]at e;rw[e]at c1;rw[c1.inj c2];exact fT q
   | succ j=>exact vq ps qs A _ _ d1 d2 hm.2 j (by simpa using h1) (by simpa using h2)
end
def OY(b1:dr s p u)(b2:dr s q w)(hu:A.units+dep p<cLine):SeqAt.EqAt A s u w (eqT p q):=by
 refine By b1.My (vp p q A _ _ b1 b2 hu).1 λz=>?_
 rw[z]at b1;rw[b1.inj b2];exact fT q
end
noncomputable def dO{α β:Type}(f:α->Option β):List α->Option (List β)
 | []=>some []
 | x::xs=>(f x).bind λy=>(dO f xs).map λys=>y::ys
noncomputable def T3:Kd->List Tr->Option Tr
 | .au,ts=>some (.au ts)
 | .lst,ts=>some (.lst ts)
 | _,_=>none
def toT(h:List aj):Nat->PV->Option Tr
 | 0,_=>none
 | n+1,p=>match p with
  | .aL=>some .aL
  | .bl b=>some (.bl b)
  | .int i=>some (.int i)
  | .str x=>some (.str x)
  | .fn _=>none
  | p=>(cS h p).bind λq=>(dO (toT h n) q.2).bind (T3 q.1)
def fK(h:dO f (x::xs)=some ys):∃y r,f x=some y/\dO f xs=some r/\ys=y::r:=by
 obtain⟨y,h1,h2⟩:=aO h;obtain⟨r,h3,h4⟩:=aP h2;exact⟨y,r,h1,h3,h4.symm⟩
theorem vt(h:List aj):∀(n:Nat) (p:PV) (t:Tr),toT h n p=some t->dep t<=n
 | 0,_,_,e=>by cases e
 | n+1,p,t,e=>by
  have go:((cS h p).bind λq=>(dO (toT h n) q.2).bind (T3 q.1))=some t->dep t<=n+1:=λe=>by
   obtain⟨q,_,e⟩:=aO e;obtain⟨ts,e1,e2⟩:=aO e;have hd:∀ps ts,dO (toT h n) ps=some ts->j4 ts<=n:=by
    intro ps;induction ps with
    | nil=>intro ts z;cases z;simp[j4]
    | cons p ps ih =>
     intro ts z;obtain⟨y,r,h1,h2,rfl⟩:=fK z;have:=vt h n p y h1;have:=ih r h2;simp only[j4];lia
   have:=hd _ _ e1;unfold T3 at e2;split at e2<;>cases e2<;>simp only[dep]<;>lia
  unfold toT at e;split at e<;>first | (cases e;simp[dep];done) | (cases e;done) | exact go e
section
variable {X:Cx} {ah:List (Addr×Obj)} {σ τ:St} {s:Shared} {af H:Hp} {ag F:Fz} {st:bY}
theorem Rep.tree(R:Rep X.K af ag F st τ H)(I:Inv X ah σ H s):∀(n:Nat) (p:PV) (t:Tr) (v:V) (u:Value),toT st.h n p=some t->bj X.K F p v->RelV v u->dr s t u
 | 0,_,_,_,_,e,_,_=>by cases e
 | n+1,p,t,v,u,e,b,r=>by
  have go:((cS st.h p).bind λq=>(dO (toT st.h n) q.2).bind (T3 q.1))=some t->dr s t u:=λe=>by
   obtain⟨⟨k,ps⟩,e0,e⟩:=aO e;obtain⟨ts,e1,e2⟩:=aO e;obtain⟨a,vs,rfl,h2,h3⟩:=R.at e0 b;have hd:∀ps ts vs us,dO (toT st.h n) ps=some ts->ay X.K F ps vs->Vals vs us->b7 s ts us:=by
    intro ps;induction ps with
    | nil=>intro ts vs us z b r;cases z;rw[b.cx]at r;cases r;simp[b7]
    | cons p ps ih =>
     intro ts vs us z b r;obtain⟨y,q,h1,h2,rfl⟩:=fK z;obtain⟨v,w,rfl,b1,b2⟩:=b.bV;cases r with
     | cons ra rr =>
      simp only[b7];exact⟨_,_,rfl,R.tree I n p y v _ h1 b1 ra,ih q w _ h2 b2 rr⟩
   cases r
   match k,e2,h2 with
   | .au,e2,h2 =>
    cases e2;obtain⟨ax,rr,pl,_⟩:=I.tuple h2.2;simp only[dr];exact⟨a,ax,rfl,pl,hd _ _ _ _ e1 h3 rr⟩
   | .lst,e2,h2 =>
    cases e2;obtain⟨ax,rr,pl,_⟩:=I.list (iR.sq h2);simp only[dr];exact⟨a,ax,rfl,pl.isList,hd _ _ _ _ e1 h3 rr⟩
  unfold toT at e;split at e
  ·cases e;rw[cX.mp b]at r;cases r;simp[dr]
  ·cases e;rw[br.mp b]at r;cases r;simp[dr]
  ·cases e;rw[aG.mp b]at r;obtain⟨t,rfl⟩:=r;simp[dr]
  ·cases e;rw[bN.mp b]at r;obtain⟨t,rfl⟩:=r;simp[dr]
  ·cases e
  ·exact go e
end
def jA:Nat:=1000
def WM(h:List aj)(p q:PV):Option Bool:=(toT h jA p).bind λx=>(toT h jA q).map λy=>eqT x y
def lg:G2:=λh p q=>(WM h p q).map .bl
def J3:G2:=λh p q=>(WM h p q).map λb=>.bl !b
noncomputable def d8:PV->Bool
 | .aL=>true
 | _=>false
noncomputable def Yt(b:Bool):PV->Option Bool
 | .bl a=>some (a==b)
 | _=>none
def xx(h:Yt b p=some c):∃a,p=.bl a/\c=(a==b):=by
 cases p<;>cases h
 exact⟨_,rfl,rfl⟩
def RQ:G2:=λ_ p q=>match q with | .aL=>some (.bl (d8 p)) | .bl b=>(Yt b p).map .bl | _=>none
def Yu(h:List aj)(p:PV)(ps:List PV):Option Bool:=(toT h jA p).bind λx=>(dO (toT h jA) ps).map λys=>ys.any λy=>eqT y x
section
variable {X:Cx}
def xy(e:WM h p q=some b):∃x y,toT h jA p=some x/\toT h jA q=some y/\b=eqT x y:=by
 obtain⟨x,e1,e⟩:=aO e;obtain⟨y,e2,e3⟩:=aP e;exact⟨x,y,e1,e2,e3.symm⟩
def OZ(hu:X.A.units+1150<cLine):oV X (compareOp .Eq) lg:=by
 rintro ah s σ H x y v u Q I rx ry ⟨af,ag,F,st,τ,pa,pb,p,e,R,ba,bb,k⟩
 obtain⟨b,e',rfl⟩:=aP e;obtain⟨ta,tb,e1,e2,rfl⟩:=xy e';have hd:=vt _ _ _ _ e1;exact(vp ta tb X.A v u (R.tree I _ _ _ _ _ e1 ba rx) (R.tree I _ _ _ _ _ e2 bb ry) (by unfold jA at hd;lia)).1 X.prog X.w X.xe _ ⟨.bl _,H,I,rfl,k _ H F R (Gr.refl F) (br.mpr rfl)⟩
def O0(hu:X.A.units+1150<cLine):oV X (compareOp .NotEq) J3:=by
 rintro ah s σ H x y v u Q I rx ry ⟨af,ag,F,st,τ,pa,pb,p,e,R,ba,bb,k⟩
 obtain⟨b,e',rfl⟩:=aP e;obtain⟨ta,tb,e1,e2,rfl⟩:=xy e';have hd:=vt _ _ _ _ e1;exact(vp ta tb X.A v u (R.tree I _ _ _ _ _ e1 ba rx) (R.tree I _ _ _ _ _ e2 bb ry) (by unfold jA at hd;lia)).2 X.prog X.w X.xe _ ⟨.bl _,H,I,rfl,k _ H F R (Gr.refl F) (br.mpr rfl)⟩
def Bz{K:W.Frag}(b:bj K F p x):decide (x=.aL)=d8 p:=by
 cases p with
 | aL=>rw[cX.mp b];rfl
 | bl _=>rw[br.mp b];rfl
 | int _=>rw[aG.mp b];rfl
 | str _=>rw[bN.mp b];rfl
 | ref _=>obtain⟨_,_,rfl⟩:=dm.mp b;rfl
 | fn _=>obtain⟨_,rfl,_⟩:=qz.mp b;rfl
 | nd _ _=>obtain⟨_,_,rfl,_⟩:=iD.mp b;rfl
def O1:oV X (compareOp .Is) RQ:=by
 rintro ah s σ H x y v u Q I rx ry ⟨af,ag,F,st,τ,pa,pb,p,e,R,ba,bb,k⟩
 unfold RQ at e;split at e
 ·cases e;exact Oi ah s σ H x y v u Q I rx ry ⟨cX.mp bb,k _ H F R (Gr.refl F) (br.mpr (by rw[Bz ba]))⟩
 ·rename_i b;obtain⟨c,e1,rfl⟩:=aP e;obtain⟨a,rfl,rfl⟩:=xx e1;rw[br.mp ba]at rx;rw[br.mp bb]at ry;cases rx;cases ry;exact wpAny_is_plain rfl ⟨.bl _,H,I,(by cases a<;>cases b<;>rfl),k _ H F R (Gr.refl F) (br.mpr rfl)⟩
 ·cases e
open Classical in
noncomputable def l9 (s:Shared) (p:Tr) (u:Value):Bool:=if h:∃q,dr s q u then eqT h.choose p else false
def BA(b:dr s q u):l9 s p u=eqT q p:=by
 have h:∃q,dr s q u:=⟨q,b⟩
 unfold l9;rw[dif_pos h,dr.inj h.choose_spec b]
theorem vw:∀{ts:List Tr} {us:List Value},b7 s ts us->us.any (l9 s p)=ts.any λy=>eqT y p
 | [],_,b=>by simp only[b7]at b;subst b;rfl
 | q::ts,_,b=>by
  simp only[b7]at b;obtain⟨u,r,rfl,c1,d1⟩:=b;rw[m9,m9,BA c1,vw d1]
theorem vx(bp:dr s p w):∀{ts:List Tr} {us:List Value},b7 s ts us->A.units+j4 ts<cLine->∀u∈us,SeqAt.EqAt A s u w (l9 s p u)
 | [],_,b,_=>λu hu=>by simp only[b7]at b;subst b;cases hu
 | q::ts,_,b,hz=>λu hu=>by
  simp only[b7]at b;obtain⟨u',r,rfl,c1,d1⟩:=b;simp only[j4]at hz;rcases aC.mp hu with rfl | hu
  ·rw[BA c1];exact OY c1 bp (by lia)
  ·exact vx bp d1 (by lia) u hu
theorem Rep.trees{st:bY}(R:Rep X.K af ag F st τ H)(I:Inv X ah σ H s)(n:Nat):∀(ps:List PV) (ts:List Tr) (vs:List V) (us:List Value),dO (toT st.h n) ps=some ts->ay X.K F ps vs->Vals vs us->b7 s ts us/\j4 ts<=n
 | [],ts,vs,us,z,b,r=>by cases z;rw[b.cx]at r;cases r;simp[b7,j4]
 | p::ps,ts,vs,us,z,b,r=>by
  obtain⟨y,q,h1,h2,rfl⟩:=fK z;obtain⟨v,w,rfl,b1,b2⟩:=b.bV;cases r with
  | cons ra rr =>
   obtain⟨h3,h4⟩:=R.trees I n ps q w _ h2 b2 rr;have:=vt _ _ _ _ h1;simp only[j4];exact⟨⟨_,_,rfl,R.tree I n p y v _ h1 b1 ra,h3⟩,by lia⟩
def FO(e:Yu h p ps=some b):∃x ys,toT h jA p=some x/\dO (toT h jA) ps=some ys/\b=ys.any λy=>eqT y x:=by
 obtain⟨x,e1,e⟩:=aO e;obtain⟨y,e2,e3⟩:=aP e;exact⟨x,y,e1,e2,e3.symm⟩
def FP(hu:X.A.units+1150<cLine){st:bY}(I:Inv X ah σ H s)(rx:RelV x v)(ry:RelV y u)(R:Rep X.K af ag F st τ H)(ba:bj X.K F pa x)(bb:bj X.K F pb y)
  (es:FI st.h pb=some ps) (eb:Yu st.h pa ps=some b) :
  (Q (.bl b) H->wpAny (model X.prog X.w) X.A (compareOp .In v u) (EP X ah σ Q) X.xe s)/\(Q (.bl !b) H->wpAny (model X.prog X.w) X.A (compareOp .NotIn v u) (EP X ah σ Q) X.xe s):=by
 obtain⟨t,ts,e1,e2,rfl⟩:=FO eb;obtain⟨a,vs,rfl,hs,hb⟩:=R.seq es bb;have tp:=R.tree I _ _ _ _ _ e1 ba rx;cases ry;rcases hs with hs | hs
 ·obtain⟨ax,r,pl,_⟩:=I.tuple hs;obtain⟨h1,h2⟩:=R.trees I _ _ _ _ _ e2 hb r;have ml:=λw (hw:w∈ax.toArray)=>vx (A:=X.A.in1) tp h1 (by rw[uH];unfold jA at h2;lia) w (by grind)
  have ea:ax.toArray.any (l9 s t)=ts.any λy=>eqT y t:=by rw[show ax.toArray.any (l9 s t)=ax.any (l9 s t) by simp,vw h1]
  exact⟨λq=>SeqAt.in_tupleAt (l9 s t) pl ml ⟨.bl _,H,I,rfl,by grind⟩,λq=>SeqAt.notIn_tupleAt (l9 s t) pl ml ⟨.bl _,H,I,rfl,by grind⟩⟩
 ·obtain⟨ax,r,pl,_⟩:=I.list hs.sq;obtain⟨h1,h2⟩:=R.trees I _ _ _ _ _ e2 hb r;have ml:=λw (hw:w∈ax.toArray)=>vx (A:=X.A.in1) tp h1 (by rw[uH];unfold jA at h2;lia) w (by grind)
  have ea:ax.toArray.any (l9 s t)=ts.any λy=>eqT y t:=by rw[show ax.toArray.any (l9 s t)=ax.any (l9 s t) by simp,vw h1]
  exact⟨λq=>SeqAt.in_listAt (l9 s t) pl.isList ml ⟨.bl _,H,I,rfl,by grind⟩,λq=>SeqAt.notIn_listAt (l9 s t) pl.isList ml ⟨.bl _,H,I,rfl,by grind⟩⟩
end
section
variable {K:W.Frag} {F:Fz}
def ay.rV{ps:List PV}{vs:List V}{i:Int}{p:PV}(h:ay K F ps vs)(e:L2.rV ps i=some p):∃v,L2.rV vs i=some v/\bj K F p v:=by
 unfold L2.rV at e ⊢;rw[<-h.length];cases z:Dc ps.length i with
 | none=>rw[z]at e;cases e
 | some j =>
  rw[z]at e;exact h.get e
def i8(xs:List PV)(lo hi:Option Int):List PV:=(xs.drop (HT.d5 xs.length 0 lo)).take (HT.d5 xs.length xs.length hi-HT.d5 xs.length 0 lo)
def ay.Mz{ps:List PV}{vs:List V}(h:ay K F ps vs)(lo hi:Option Int):ay K F (i8 ps lo hi) (xl vs lo hi):=by
 unfold i8 xl;rw[h.length];exact(h.drop _).take _
def et{p:PV}{vs:List V}(b:ay K F [p] vs):∃v,vs=[v]/\bj K F p v:=by
 obtain⟨v,r,rfl,c,d⟩:=b.bV;rw[d.cx];exact⟨v,rfl,c⟩
def J4{p q:PV}{vs:List V}(b:ay K F [p,q] vs):∃v w,vs=[v,w]/\bj K F p v/\bj K F q w:=by
 obtain⟨v,r,rfl,c,d⟩:=b.bV;obtain⟨w,rfl,e⟩:=et d;exact⟨v,w,rfl,c,e⟩
end
def me{prog:Program}{w:World}{A:Around}{E:Value->Shared->Prop}{s:Shared}{t sl:Addr}{ax:Array Value}{vl vu:Value}{lo hi:Option Int}{Q:Value->Shared->Prop}(ht:IsTup s.heap t ax)(hs:s.heap.IsSliceOf sl vl vu .none)(pl:IsPart vl lo)(pu:IsPart vu hi)
  (h0:HT.d5 ax.size 0 lo=0) (h1:HT.d5 ax.size ax.size hi=ax.size) (h:Q (.ref t) s):wpAny (model prog w) A (getItem (.ref t) (.ref sl)) Q E s:=by
 obtain⟨os,IC,WE,S9⟩:=id hs;have hT:s.TypeIs (.ref sl) "slice":=⟨os,IC,WE⟩;unfold getItem
 try with_reducible refine dU ?_
 first | refine ai (ar ?_) | skip
 refine ai (wpAny_sequenceKey ht.typeIs (by decide) ?_)
 refine ai (fZ ht.typeIs mR (fE mR ht.typeIs entry_tuple_getitem ?_ (args_tuple_getitem _ _)));show wpAny _ _ (Builtin.Tuple.tupleItemsOf (.ref t) >>= _) _ _ s;refine ai (tupleItemsOf_ ht (ai (nc hT ?_)));refine ai (HT.ik hs pl pu ?_);have hc:(((HT.d5 ax.size 0 lo:Nat):Int)==0&&(1:Int)==1&&(HT.d5 ax.size ax.size hi-HT.d5 ax.size 0 lo)==ax.size)=true:=by
  rw[h0,h1];simp
 show wpAny _ _ (if(((HT.d5 ax.size 0 lo:Nat):Int)==0&&1==1&&(HT.d5 ax.size ax.size hi-HT.d5 ax.size 0 lo)==ax.size)=true then _ else _) _ _ s
 rw[if_pos hc];unfold Builtin.Tuple.tupleIsExact;refine ai (ai (nc ht.typeIs (ar ?_)));exact ai (iB (ar ⟨_,rfl,ar h⟩))
def J5(h:List aj)(lo hi:Option Int)(p:PV):Option PV:=match cS h p with
 | some (.lst,ps)=>some (.lst (i8 ps lo hi))
 | some (.au,ps)=>some (.au (i8 ps lo hi))
 | _=>none
section
variable {X:Cx} {af:Hp} {ag:Fz} {a b e:Expr} {es:List Expr} {fa fb:Gx PV} {ts:Gx (List PV)} {pos p1 p2:Pos} {lo hi:Option Expr}
def rSl(K:W.Frag):V->Option Int->Option Int->Hp->VK->Prop:=λx lo hi H Q=>∃af ag F st τ pa p,J5 st.h lo hi pa=some p/\Rep K af ag F st τ H/\bj K F pa x/\∀v H' F',Rep K af ag F' st τ H'->Gr F F'->bj K F' p v->Q v H'
def slT:WG X (rSl X.K):=by
 rintro ah s σ H x v vl vu lo hi sl Q I rx hs pl pu ⟨af,ag,F,st,τ,pa,p,e,R,ba,k⟩
 unfold J5 at e;split at e
 ·rename_i z;cases e;obtain⟨a,vs,rfl,ha,gW⟩:=R.at z ba;refine JL ah s σ H _ v vl vu lo hi sl Q I rx hs pl pu ⟨a,vs,rfl,iR.sq ha,λq hq=>?_⟩
  obtain⟨R2,s2⟩:=R.laid (.lst (xl vs lo hi)) hq;exact k _ _ _ R2 s2 (dA.mpr ⟨q,_,rfl,iR.of aA,(gW.Mz lo hi).mono s2⟩)
 ·rename_i ps z;cases e;cases pa with
  | nd kk pp =>
   cases z;obtain⟨a,vs,rfl,ha,gW⟩:=bR.mp ba;by_cases hw:HT.d5 vs.length 0 lo=0/\HT.d5 vs.length vs.length hi=vs.length
   ·cases rx;obtain⟨ax,r,ht,hz⟩:=I.tuple (cZ R.sub ha);have eW:ax.toArray.size=vs.length:=by rw[cC];exact r.length.symm
    refine⟨"tuple",_,mR.lookup,ht.typeIs,?_⟩;refine me ht hs pl pu (by grind) (by grind) ⟨.ref a,H,I,rfl,k _ H F R (Gr.refl F) ?_⟩
    have hc:i8 ps lo hi=ps:=by
     unfold i8;rw[gW.length,hw.1,hw.2,List.drop_zero,Nat.sub_zero,<-gW.length,List.take_length]
    rw[hc];exact ba
   ·refine Ox ah s σ H _ v vl vu lo hi sl Q I rx hs pl pu ⟨a,vs,rfl,cZ R.sub ha,hw,λq hq=>?_⟩
    obtain⟨R2,s2⟩:=R.laid (.au (xl vs lo hi)) hq;exact k _ _ _ R2 s2 (bR.mpr ⟨q,_,rfl,iC.of aA,(gW.Mz lo hi).mono s2⟩)
  | ref n =>
   obtain⟨c,e1,e2⟩:=aO z;obtain⟨hl,e3⟩:=aE e2;have hk:c.k=.au:=by grind
   unfold live at hl;rw[hk]at hl;cases hl
  | _=>cases z
 ·cases e
abbrev J6(X:Cx)(af:Hp)(ag:Fz)(f:Gx (Option Int)):TO:=tX X af ag (λ_ a b=>a=b) f
def _root_.L2.PO.imp{X:Cx}{e:Option Expr}{t t':TO}(h:PO X e t)(hi:∀σ H Q,t' σ H Q->t σ H Q):PO X e t':=λah s σ H Q I hw=>h ah s σ H Q I (hi _ _ _ hw)
noncomputable def nC:PV->Option Int | .int i=>some i | _=>none
def fL{p:PV}{i:Int}(h:nC p=some i):p=.int i:=by
 cases p<;>first | (cases h;rfl) | cases h
def FQ(fe:Gx PV):Gx (Option Int):=bnd fe λp=>jT ((nC p).map some)
def O2:PO X none (J6 X af ag (cA none)):=JG.imp λσ H Q h=>vn h λ_=>rfl
def O3(h:PE X e (tE X af ag fa)):PO X (some e) (J6 X af ag (FQ fa)):=(JH h).imp λσ H Q ⟨F,st,R,h⟩=>⟨F,st,R,h.bnd λp v F1 st1 H1 R1 g1 b1 h1=>by
 obtain⟨o,e,z⟩:=h1.jT;obtain⟨i,e1,rfl⟩:=aP e;rw[fL e1]at b1;exact⟨i,aG.mp b1,z _ H1 F1 R1 (Gr.refl _) rfl⟩⟩
def cutE(fa:Gx PV)(fl fh:Gx (Option Int)):Gx PV:=bnd fa λp=>bnd fl λl=>bnd fh λr=>hp λh=>J5 h l r p
def T4{fl fh:Gx (Option Int)}(ha:PE X e (tE X af ag fa))(hl:PO X lo (J6 X af ag fl))(hh:PO X hi (J6 X af ag fh)):PE X (.Subscript e (.Slice lo hi none p2) pos) (tE X af ag (cutE fa fl fh)):=(Fw slT ha hl hh).imp λσ H Q ⟨F,st,R,h⟩ =>
 ⟨F,st,R,h.bnd λp v F1 st1 H1 R1 g1 b1 h1=>⟨F1,st1,R1,h1.bnd λl l' F2 dG H2 R2 g2 b2 h2=>⟨F2,dG,R2,h2.bnd λr r' F3 wJ H3 R3 g3 b3 h3=>by
  cases b2;cases b3;obtain⟨o,e,z⟩:=h3.hp;exact⟨af,ag,F3,wJ,σ,p,o,e,R3,b1.mono (g2.trans g3),z⟩⟩⟩⟩
abbrev GC:=List aj->List PV->Option PV
def rC(K:W.Frag)(g:GC):List V->Hp->VK->Prop:=λxs H Q=>∃af ag F st τ ps p,g st.h ps=some p/\Rep K af ag F st τ H/\ay K F ps xs/\∀v H' F',Rep K af ag F' st τ H'->Gr F F'->bj K F' p v->Q v H'
abbrev FT(X:Cx)(f:Value)(g:GC):Prop:=kl X f (rC X.K g)
def J7(g:GC)(ts:Gx (List PV)):Gx PV:=bnd ts λps=>hp λh=>g h ps
def mh{g:GC}{σ:St}{H:Hp}{Q:VK}(h:tE X af ag (J7 g ts) σ H Q):X7 (rC X.K g) (tA X af ag ts) σ H Q:=by
 obtain⟨F,st,R,h⟩:=h;refine⟨F,st,R,h.bnd λps vs F1 st1 H1 R1 g1 b1 h1=>?_⟩
 obtain⟨o,e,z⟩:=h1.hp;exact⟨af,ag,F1,st1,σ,ps,o,e,R1,b1,z⟩
def T5(h:List aj)(p:PV):Option Nat:=match cS h p with
 | some (.au,ps)=>some ps.length
 | some (.lst,ps)=>some ps.length
 | some (.eQ _ ks,_)=>some ks.length
 | _=>none
def jw:GC:=λh ps=>match ps with
 | [.str z]=>if z.length<=ic then some (.int z.length)else none
 | [p]=>(T5 h p).map λn=>.int n
 | _=>none
def FU:GC:=λh ps=>match ps with
 | [.nd .au qs]=>some (.au qs)
 | [p]=>(vo h p).map λqs=>.au qs
 | _=>none
noncomputable def FV:GC:=λ_ ps=>match ps with
 | [.int i]=>some (.int i)
 | [.bl b]=>some (.int (if b then 1 else 0))
 | _=>none
noncomputable def J8:GC:=λ_ ps=>match ps with
 | [.int i]=>if 0<=i/\i<1000 then some (.str (toString i))else none
 | _=>none
def FW(ps:List PV):Option (List Int):=dO nC ps
def J9:GC:=λh ps=>match ps with
 | [p]=>(vo h p).bind λqs=>(FW qs).map λns=>.int ns.sum
 | _=>none
def xA{A:Around}{E:Value->Shared->Prop}{s:Shared}{d:Addr}{o:Obj}{es:Array DictEntry}{ep n:Nat}{Q:Value->Shared->Prop}(hd:(d==sysModules)=false)(ho:s.heap.get? d=some o)(hc:o.ExactDict)(Af:o.data=.dict es ep)(hn:es.size=n)(T6:(n:Int)<2^63)
  (h:Q (.int n (s.toks+1)) {s with toks:=s.toks+1+1}):wpAny (model X.prog X.w) A (call (.builtin "len") [.ref d]) Q E s:=by
 have ty:s.TypeIs (.ref d) "dict":=⟨o,ho,hc.1⟩;have hm:MeetsIn X.prog X.w (Builtin.«dict.__len__» ⟨[.ref d],[]⟩) (λ_ R s'=>s'.heap.get? d=some o/\R (.ok (.ret (.int n s'.toks))) {s' with toks:=s'.toks+1}):=.of_wp <| by
  rintro A R s' ⟨mP,hR⟩
  show wpAny _ _ (dictSize d >>= _) _ _ s';refine ai (ai (wpAny_dictEntries mP Af (ar ?_)));refine ai (wpAny_pendingCount_other hd ?_);refine wpAny_ret_mkInt ?_;rw[gC,hn];exact hR
 refine Calls.call_function_entry kind_len plain_len entry_len (args_len1 _) ?_;refine ai (ar ?_);refine ai (fZ ty F.slot_dict_len (call_meetsIn F.slot_dict_len ty F.entry_dict_len (F.args_dict_len_1 _) hm ⟨ho,?_⟩));show wpAny _ _ _ _ _ {s with toks:=s.toks+1}
 refine ai (dU (ar ?_));refine ai (pW ?_);show wpAny _ _ (if((n:Nat):Int)>=2^63 then _ else _) _ _ _
 rw[if_neg (by lia)]
 exact ai (wpAny_mkInt (ar ⟨_,rfl,h⟩))
def BB{n:Nat}(h:n<=sizeLine):(n:Int)<2^63:=by
 have h1:n<=2^62:=aY h (by decide)
 have h62:2^62=4611686018427387904:=by decide
 lia
def Ka{ah:List (Addr×Obj)}{s:Shared}{σ:St}{H:Hp}{a:Addr}{t:Bool}{ks:List (bQ×List bQ)}{vs:List V}{us:List Value}{Q:VK}{F:Hp}(I:Inv X ah σ H s)(rs:Vals [V.ref a] us)(h:kW X.K F H a false (.eQ t ks) vs)(q:Q (.int ks.length) H):wpAny (model X.prog X.w) X.A (call (.builtin "len") us) (λu s'=>∃v H',Inv X ah σ H' s'/\RelV v u/\Q v H') X.xe s:=by
 obtain⟨u,rfl,ru⟩:=km rs;cases ru;cases t with
 | false =>
  obtain⟨kvs,h1,h2,h3⟩:=h;obtain⟨z,y,ws,hk,o,es,ep,g1,g2,g3,g4,g5,g6⟩:=(I.hok a _ h1);have hl:ks.length=kvs.length:=by grind
  have hn:es.size=ks.length:=by rw[hl,m7 hk,<-g5.length,pq]
  exact xA y g1 g2 g3 hn (BB (by grind)) ⟨.int ks.length,H,I.tok _,⟨_,rfl⟩,q⟩
 | true =>
  obtain⟨xs,h1,_,h2,_⟩:=h;obtain⟨z,y,o,es,ep,g1,g2,g3,g4,g5⟩:=(I.hok a _ h1);have hl:ks.length=xs.length:=by grind
  exact xA y g1 g2 g3 (by rw[<-pq,g4,aU,hl]) (BB (by grind)) ⟨.int ks.length,H,I.tok _,⟨_,rfl⟩,q⟩
def Dk:FT X (.builtin "len") jw:=by
 rintro ah s σ H xs us Q I rs ⟨af,ag,F,st,τ,ps,p,e,R,bs,k⟩
 unfold jw at e;split at e
 ·obtain⟨hz,rfl⟩:=aE e;obtain⟨v,rfl,b⟩:=et bs;rw[bN.mp b]at rs;exact vi ah s σ H _ us Q I rs ⟨_,rfl,dY hz,k _ H F R (Gr.refl F) (aG.mpr rfl)⟩
 ·obtain⟨n,e1,rfl⟩:=aP e;obtain⟨v,rfl,b⟩:=et bs;unfold T5 at e1;split at e1
  ·rename_i z;cases e1;obtain⟨a,vs,rfl,ha,gW⟩:=R.at z b;exact lS ah s σ H _ us Q I rs ⟨a,vs,rfl,.inr ha.2,k _ H F R (Gr.refl F) (aG.mpr (by rw[gW.length]))⟩
  ·rename_i z;cases e1;obtain⟨a,vs,rfl,ha,gW⟩:=R.at z b;exact lS ah s σ H _ us Q I rs ⟨a,vs,rfl,.inl (iR.sq ha),k _ H F R (Gr.refl F) (aG.mpr (by rw[gW.length]))⟩
  ·rename_i z;cases e1;obtain⟨a,vs,rfl,ha,gW⟩:=R.at z b;exact Ka I rs ha (k _ H F R (Gr.refl F) (aG.mpr rfl))
  ·cases e1
 ·cases e
def Dl:FT X (.type "tuple") FU:=by
 rintro ah s σ H xs us Q I rs ⟨af,ag,F,st,τ,ps,p,e,R,bs,k⟩
 unfold FU at e;split at e
 ·cases e;obtain⟨v,rfl,b⟩:=et bs;obtain⟨a,vs,rfl,ha,gW⟩:=bR.mp b;exact ko ah s σ H _ us Q I rs ⟨a,vs,rfl,.inr ⟨cZ R.sub ha,k _ H F R (Gr.refl F) b⟩⟩
 ·obtain⟨qs,e1,rfl⟩:=aP e;obtain⟨v,rfl,b⟩:=et bs;obtain⟨a,vs,rfl,ha,gW⟩:=R.at (fJ e1) b;refine ko ah s σ H _ us Q I rs ⟨a,vs,rfl,.inl ⟨iR.sq ha,λq hq=>?_⟩⟩
  obtain⟨R2,s2⟩:=R.laid (.au vs) hq;exact k _ _ _ R2 s2 (bR.mpr ⟨q,_,rfl,iC.of aA,gW.mono s2⟩)
 ·cases e
def Dn:FT X (.type "int") FV:=by
 rintro ah s σ H xs us Q I rs ⟨af,ag,F,st,τ,ps,p,e,R,bs,k⟩
 unfold FV at e;split at e
 ·cases e;obtain⟨v,rfl,b⟩:=et bs;rw[aG.mp b]at rs;exact sS ah s σ H _ us Q I rs (.inl ⟨_,rfl,k _ H F R (Gr.refl F) (aG.mpr rfl)⟩)
 ·cases e;obtain⟨v,rfl,b⟩:=et bs;rw[br.mp b]at rs;exact sS ah s σ H _ us Q I rs (.inr ⟨_,rfl,k _ H F R (Gr.refl F) (aG.mpr rfl)⟩)
 ·cases e
def Dp:FT X (.type "str") J8:=by
 rintro ah s σ H xs us Q I rs ⟨af,ag,F,st,τ,ps,p,e,R,bs,k⟩
 unfold J8 at e;split at e
 ·rename_i i;obtain⟨⟨h0,h1⟩,rfl⟩:=aE e;obtain⟨v,rfl,b⟩:=et bs;rw[aG.mp b]at rs;exact u9 ah s σ H _ us Q I rs ⟨i,rfl,(by
   by_cases h:i.natAbs=0
   ·simp_all
   ·exact pA (Nat.log2_le_self _) (by lia)),k _ H F R (Gr.refl F) (bN.mpr rfl)⟩
 ·cases e
theorem xB{K:W.Frag}{F:Fz}:∀{ps:List PV} {ns:List Int} {vs:List V},FW ps=some ns->ay K F ps vs->vs=ns.map V.int
 | [],ns,vs,h,b=>by cases h;exact b.cx
 | p::r,ns,vs,h,b=>by
  obtain⟨i,ms,h1,h2,rfl⟩:=fK h;obtain⟨v,vr,rfl,c,d⟩:=b.bV;rw[fL h1]at c;rw[aG.mp c,xB h2 d];rfl
def Kb{ah:List (Addr×Obj)}{σ:St}{H:Hp}{s:Shared}{F:Fz}(I:Inv X ah σ H s){a:Addr}{vs:List V}{ps:List PV}{ns:List Int}(hn:FW ps=some ns)(ha:iR X.K H a vs)(gW:ay X.K F ps vs) :
  ∃xs:Array (Int×Tok),s.heap.IsList a (intItems xs)/\ns=xs.toList.map (·.1):=by
 obtain⟨ax,r,pl,_⟩:=I.list ha.sq;have ev:=xB hn gW;subst ev;have hi:=Aa r;obtain⟨xs,ex⟩:=hi.allInts.items;exact⟨xs,by rw[<-ex];exact pl.isList,by rw[<-hi.numsOf,<-nums_intItems,<-ex]⟩
def Dq(hc:X.A.handled=none):FT X (.builtin "sum") J9:=by
 rintro ah s σ H xs us Q I rs ⟨af,ag,F,st,τ,ps,p,e,R,bs,k⟩
 unfold J9 at e;split at e
 ·obtain⟨qs,e1,e⟩:=aO e;obtain⟨ns,e2,rfl⟩:=aP e;obtain⟨v,rfl,b⟩:=et bs;obtain⟨a,vs,rfl,ha,gW⟩:=R.at (fJ e1) b;obtain⟨xs,hl,hn⟩:=Kb I e2 ha gW;obtain⟨u,rfl,ru⟩:=km rs;cases ru;refine sum_intListG hc hl λh' tk t' hk=>⟨.int ns.sum,H,I.kept hk,⟨t',?_⟩,k _ H F R (Gr.refl F) (aG.mpr rfl)⟩
  rw[preSum_eq,yY (by simp),hn]
 ·cases e
inductive Ty where
 | int | str | bool | tuple | list
noncomputable def Ty.nm:Ty->String
 | .int=>"int" | .str=>"str" | .bool=>"bool" | .tuple=>"tuple" | .list=>"list"
def T7(h:List aj):PV->Option String
 | .aL=>some "NoneType"
 | .bl _=>some "bool"
 | .int _=>some "int"
 | .str _=>some "str"
 | p=>match cS h p with
  | some (.au,_)=>some "tuple"
  | some (.lst,_)=>some "list"
  | _=>none
def O4(t:Ty)(y:String):Bool:=y==t.nm || (t.nm=="int"&&y=="bool")
def WN(t:Ty)(fa:Gx PV):Gx PV:=bnd fa λp=>hp λh=>(T7 h p).map λy=>.bl (O4 t y)
def rIs(K:W.Frag)(t:Ty):List V->Hp->VK->Prop:=λxs H Q=>∃af ag F st τ p x y,xs=[x,.ty t.nm]/\Rep K af ag F st τ H/\bj K F p x/\T7 st.h p=some y/\Q (.bl (O4 t y)) H
def Kc(t:Ty):kl X (.builtin "isinstance") (rIs X.K t):=by
 rintro ah s σ H xs us Q I rs ⟨af,ag,F,st,τ,p,x,y,ex,R,b,ey,q⟩
 subst ex;obtain⟨u,w,rfl,ru,JK⟩:=Fq rs;cases JK;have jc:∀tk,EP X ah σ Q (.bool (O4 t y)) {s with toks:=tk}:=λtk=>⟨.bl _,H,I.tok tk,rfl,q⟩
 have more:(match cS st.h p with
  | some (.au,_)=>some "tuple"
  | some (.lst,_)=>some "list"
  | _=>none)=some y->wpAny (model X.prog X.w) X.A (call (.builtin "isinstance") [u,.type t.nm]) (EP X ah σ Q) X.xe s:=λey=>by
  split at ey
  ·rename_i z;cases ey;obtain⟨a,vs,rfl,h2,h3⟩:=R.at z b;cases ru;obtain⟨ax,_,⟨o,h1,h2,_⟩,_⟩:=I.tuple h2.2;exact W.kia_one W.kitx_tuple I.og ⟨o,h1,h2⟩ (by cases t<;>kernel_rfl) (λz=>nomatch z) jc
  ·rename_i z;cases ey;obtain⟨a,vs,rfl,h2,h3⟩:=R.at z b;cases ru;obtain⟨ax,n,_,h1,_⟩:=I.lZ h2;exact W.kia_one W.kitx_list I.og ⟨_,h1,rfl⟩ (by cases t<;>kernel_rfl) (λz=>nomatch z) jc
  ·cases ey
 cases p with
 | aL =>
  cases ey;rw[cX.mp b]at ru;cases ru;exact W.kia_one W.kitx_none I.og True.intro (by cases t<;>kernel_rfl) (λz=>nomatch z) jc
 | bl y =>
  cases ey;rw[br.mp b]at ru;cases ru;exact W.kia_one W.kitx_bool I.og True.intro (by cases t<;>kernel_rfl) (λz=>nomatch z) jc
 | int i =>
  cases ey;rw[aG.mp b]at ru;obtain⟨tk,rfl⟩:=ru;exact W.kia_one W.kitx_int I.og True.intro (by cases t<;>kernel_rfl) (λz=>nomatch z) jc
 | str y =>
  cases ey;rw[bN.mp b]at ru;obtain⟨tk,rfl⟩:=ru;exact W.kia_one W.kitx_str I.og True.intro (by cases t<;>kernel_rfl) (λz=>nomatch z) jc
 | ref n=>exact more ey
 | fn x=>exact more ey
 | nd k ps=>exact more ey
def ou:bootBuiltins "isinstance"=some (.builtin "isinstance"):=by kernel_rfl
def mi(t:Ty):bootBuiltins (Str.ofString t.nm)=some (.type t.nm):=by cases t<;>kernel_rfl
noncomputable def tys:List Ty:=[.int,.str,.bool,.tuple,.list]
def BC(x:Str):Option Ty:=tys.find? λt=>x==Str.ofString t.nm
def FX{x:Str}{t:Ty}(h:BC x=some t):x=Str.ofString t.nm:=by
 have:=List.find?_some h;exact aV this
def Yv{x:Str}{t:Ty}(ht:BC x=some t)(hg:Gl X "isinstance")(hm:X.mg "isinstance"=none)(wL:Gl X x)(MA:X.mg x=none)(ha:PE X a (tE X af ag fa))(hs:∀es,starEach (a::es) X.env=(false,eval a X.env)::starEach es X.env) :
  PE X (.Call (.Name "isinstance" p1) [a,.Name x p2] [] pos) (tE X af ag (WN t fa)):=by
 have hx:=FX ht;subst hx;refine(qr (Kc t) hg hm ou (gV ha (gV (Jh (v:=.ty t.nm) wL MA (mi t) rfl (by cases t<;>decide) (by cases t<;>decide)) qp rfl) (hs _)) (by decide) (by decide) (hs _)).imp λσ H Q ⟨F,st,R,h⟩=>?_
 refine⟨F,st,R,h.bnd λp v F1 st1 H1 R1 g1 b1 h1=>?_⟩
 obtain⟨o,e,z⟩:=h1.hp;obtain⟨y,e1,rfl⟩:=aP e;exact⟨af,ag,F1,st1,σ,p,v,y,rfl,R1,b1,e1,z _ H1 F1 R1 (Gr.refl _) (br.mpr rfl)⟩
def O5(fa:Gx PV):Gx PV:=bnd fa λp=>jT ((nC p).map λi=>.int (-i))
def T8(ha:PE X a (tE X af ag fa)):PE X (.UnaryOp .USub a pos) (tE X af ag (O5 fa)):=(SR Oh ha).imp λσ H Q ⟨F,st,R,h⟩=>⟨F,st,R,h.bnd λp v F1 st1 H1 R1 g1 b1 h1=>by
 obtain⟨o,e,z⟩:=h1.jT;obtain⟨i,e1,rfl⟩:=aP e;rw[fL e1]at b1;exact⟨i,aG.mp b1,z _ H1 F1 R1 (Gr.refl _) (aG.mpr rfl)⟩⟩
end
noncomputable def xC(a m:Int)(n:Nat):List Nat:=sliceRange (sliceBounds (some a) none (some m) n).1 (sliceBounds (some a) none (some m) n).2.1 (sliceBounds (some a) none (some m) n).2.2
def xD{α:Type}(a m:Int)(ps:List α):List α:=(xC a m ps.length).filterMap (ps[·]?)
def T9(p:PV)(l m:Option Int):Option PV:=match p,l,m with
 | .nd .lst ps,some a,some b=>if(b != 0&&decide ((xC a b ps.length).length<=ic))=true then some (.lst (xD a b ps))else none
 | _,_,_=>none
def O6(fa:Gx PV)(fl fm:Gx (Option Int)):Gx PV:=bnd fa λp=>bnd fl λl=>bnd fm λm=>jT (T9 p l m)
theorem nD{xs:List V}{us:List Value}(r:Vals xs us):∀is:List Nat,Vals (is.filterMap (xs[·]?)) (is.filterMap (us[·]?))
 | []=>.nil
 | i::is=>by
  cases h:xs[i]? with
  | none =>
   rw[uw h,uw (r.none_of h)];exact nD r is
  | some x =>
   obtain⟨u,h1,h2⟩:=r.get h;rw[uv h,uv h1];exact .cons h2 (nD r is)
theorem nE{K:W.Frag}{F:Fz}{ps:List PV}{vs:List V}(r:ay K F ps vs):∀is:List Nat,ay K F (is.filterMap (ps[·]?)) (is.filterMap (vs[·]?))
 | []=>.nil
 | i::is=>by
  cases h:ps[i]? with
  | none =>
   have h2:vs[i]?=none:=by
    have:=r.length;have:=hJ.mp h;exact hJ.mpr (by lia)
   rw[uw h,uw h2];exact nE r is
  | some p =>
   obtain⟨v,h1,h2⟩:=r.get h;rw[uv h,uv h1];exact .cons h2 (nE r is)
section
variable {X:Cx} {af:Hp} {ag:Fz} {e:Expr} {fa:Gx PV} {pos p2:Pos} {lo:Option Expr} {hi:Expr}
def rSp(K:W.Frag):V->Option Int->Option Int->Hp->VK->Prop:=λx l m H Q=>∃c a b vs,x=.ref c/\l=some a/\m=some b/\iR K H c vs/\b≠0/\(xC a b vs.length).length<=ic/\∀q,H q=none->Q (.ref q) (cU H q (.lst (xD a b vs)))
def O7{te:TE}{tl th:TO}(he:PE X e te)(hl:PO X lo tl)(hu:PO X (some hi) th):PE X (.Subscript e (.Slice lo none (some hi) p2) pos) (tSl (rSp X.K) te tl th):=by
 intro ah s σ H Q I h;refine Subscript_ (thn (he ah s σ H _ I h) λv s1 ⟨x,H1,I1,r1,q1⟩=>?_)
 refine wpAny_Slice (thn (hl ah s1 σ H1 _ I1 q1) λvl s2 ⟨l,H2,I2,pl,q2⟩=>?_)
 rw[evalPart_none];refine ar ?_;refine thn (hu ah s2 σ H2 _ I2 q2) λvu s3 ⟨u,H3,I3,pu,q3⟩=>?_
 have I4:Inv X ah σ H3 {s3 with heap:=s3.heap.push {cls:=.type "slice",data:=.fields #[vl,.none,vu]}}:=I3.kept λb ob q=>aK _ q
 show wpAny (model X.prog X.w) X.A (subscriptTail e (.Slice lo none (some hi) p2) v (.ref s3.heap.objs.size)) (EP X ah σ Q) X.xe {s3 with heap:=s3.heap.push {cls:=.type "slice",data:=.fields #[vl,.none,vu]}}
 obtain⟨c,a,b,vs,rfl,rfl,rfl,hs,hb0,qE,q⟩:=q3;cases r1;obtain⟨ax,r,ht,hz⟩:=I4.list (iR.sq hs);have eW:ax.toArray.size=vs.length:=by rw[cC];exact r.length.symm
 have hg:wpAny (model X.prog X.w) X.A (getItem (.ref c) (.ref s3.heap.objs.size)) (EP X ah σ Q) X.xe {s3 with heap:=s3.heap.push {cls:=.type "slice",data:=.fields #[vl,.none,vu]}}:=by
  refine wpAny_getItem_list_slice ht.isList (Heap.IsSliceOf.new ..) pl .none pu (by simpa using hb0) ?_ (by rw[eW];exact hz)
  have Ua:slicePick ax.toArray (some a) none (some b)=((xC a b vs.length).filterMap (ax[·]?)).toArray:=by
   unfold slicePick xC;rw[eW];refine eU (λf=>(List.filterMap f _).toArray) (funext λi=>?_)
   rw[List.getElem?_toArray]
  rw[Ua];refine⟨.ref _,_,I4.laid (o:=.lst (xD a b vs)) (λb ob q=>aK _ q) (aF _) ?_,rfl,q _ (I4.hok.fresh (aF _))⟩
  exact⟨aY (List.length_filterMap_le _ _) (aY qE (by decide)),_,0,nD r _,bL _ rfl⟩
 exact nj (ops:=[.ref c,.ref s3.heap.objs.size]) ht.isList.typeIs slot_list_getitem.lookup hg (by with_unfolding_all rfl)
def Ub{fl fh:Gx (Option Int)}(ha:PE X e (tE X af ag fa))(hl:PO X lo (J6 X af ag fl))(hh:PO X (some hi) (J6 X af ag fh)):PE X (.Subscript e (.Slice lo none (some hi) p2) pos) (tE X af ag (O6 fa fl fh)):=(O7 ha hl hh).imp λσ H Q ⟨F,st,R,h⟩ =>
 ⟨F,st,R,h.bnd λp v F1 st1 H1 R1 g1 b1 h1=>⟨F1,st1,R1,h1.bnd λl l' F2 dG H2 R2 g2 b2 h2=>⟨F2,dG,R2,h2.bnd λr r' F3 wJ H3 R3 g3 b3 h3=>by
  cases b2;cases b3;obtain⟨o,e,z⟩:=h3.jT;unfold T9 at e;split at e
  ·rename_i ps a b;obtain⟨hc,rfl⟩:=aE e;simp only[aJ,bne_iff_ne,uE]at hc;obtain⟨ad,vs,rfl,hs,hb⟩:=dA.mp (b1.mono (g2.trans g3));rw[hb.length]at hc;refine⟨ad,a,b,vs,rfl,rfl,rfl,jx R3.sub hs,hc.1,hc.2,λq hq=>?_⟩
   obtain⟨R4,s4⟩:=R3.laid (.lst (xD a b vs)) hq;refine z _ _ _ R4 s4 (dA.mpr ⟨q,_,rfl,iR.of aA,?_⟩);unfold xD;rw[hb.length];exact(nE hb _).mono s4
  ·cases e⟩⟩⟩
end
noncomputable def Dr:PV->Option bQ
 | .int i=>some (.inl i)
 | .str x=>some (.inr x)
 | _=>none
def fU:Bool->PV->Option (bQ×List bQ)
 | false,p=>(Dr p).map λk=>(k,[])
 | true,.nd .au [p,.nd .au ps]=>if ps.length<1000 then(Dr p).bind λk=>(dO Dr ps).map λr=>(k,r)else none
 | true,_=>none
noncomputable def mj(k:bQ×List bQ)(ks:List (bQ×List bQ)):Bool:=ks.any λj=>decide (j=k)
noncomputable def gX(k:bQ×List bQ):List (bQ×List bQ)->List PV->Option PV
 | j::ks,p::ps=>if j=k then some p else gX k ks ps
 | _,_=>none
noncomputable def sh(k:bQ×List bQ)(q:PV):List (bQ×List bQ)->List PV->List PV
 | j::ks,p::ps=>(if j=k then q else p)::sh k q ks ps
 | _,ps=>ps
def qJ:sh k q [] ps=ps:=by cases ps<;>rfl
def iH(t:Bool)(k:bQ×List bQ)(q:PV)(ks:List (bQ×List bQ))(ps:List PV):aj:=if mj k ks=true then⟨.eQ t ks,sh k q ks ps⟩else⟨.eQ t (ks++[k]),ps++[q]⟩
section
variable {K:W.Frag} {F:Fz}
def mn(h:Dr p=some k)(b:bj K F p v):v=kV k:=by
 cases p<;>cases h
 ·exact aG.mp b
 ·exact bN.mp b
theorem tq:∀{ps:List PV} {ks:List bQ} {vs:List V},dO Dr ps=some ks->ay K F ps vs->vs=ks.map kV
 | [],_,_,h,b=>by cases h;exact b.cx
 | _::_,_,_,h,b=>by
  obtain⟨k,r,h1,h2,rfl⟩:=fK h;obtain⟨v,w,rfl,b1,b2⟩:=b.bV;rw[mn h1 b1,tq h2 b2];rfl
def mq(h:fU false p=some k)(b:bj K F p v):∃j,k=(j,[])/\v=kV j:=by
 obtain⟨j,e,rfl⟩:=aP h;exact⟨j,rfl,mn e b⟩
def jB(h:fU true p=some k)(b:bj K F p v):∃c,v=.ref c/\Ej K F.F c k:=by
 unfold fU at h;split at h
 ·grind
 ·obtain⟨_,h⟩:=bT h;obtain⟨i,h1,h⟩:=aO h;obtain⟨r,h2,rfl⟩:=aP h;obtain⟨c,vs,rfl,hs,hb⟩:=bR.mp b;obtain⟨v1,w1,rfl,b1,b2⟩:=hb.bV;obtain⟨v2,w2,rfl,b2,b3⟩:=b2.bV;obtain⟨d,us,rfl,Fs,hb2⟩:=bR.mp b2;rw[b3.cx,mn h1 b1]at hs;rw[tq h2 hb2]at Fs;exact⟨c,rfl,d,hs,Fs⟩
 ·cases h
theorem vy(j:bQ):∀kvs:List (bQ×V),mj (j,[]) (kvs.map λy=>(y.1,[]))=(om kvs j).isSome
 | []=>rfl
 | (i,v)::r=>by
  have ih:=vy j r;unfold mj at ih ⊢;rw[aQ,m9,ih];by_cases h:i=j
  ·subst h;rw[lW rfl];simp
  ·rw[lX h];simp[h]
theorem BD:∀{kvs:List (bQ×V)} {ps:List PV} {p:PV},gX (j,[]) (kvs.map λy=>(y.1,[])) ps=some p->ay K F ps (kvs.map (·.2))->∃v,om kvs j=some v/\bj K F p v
 | [],_,_,h,_=>by cases h
 | (i,v)::r,[],_,h,_=>by cases h
 | (i,v)::r,q::ps,p,h,b=>by
  obtain⟨v',w,e,b1,b2⟩:=b.bV;cases e;have h:(if(i,([]:List bQ))=(j,[])then some q else gX (j,[]) (r.map λy=>(y.1,[])) ps)=some p:=h
  by_cases hi:i=j
  ·subst hi;rw[if_pos rfl]at h;cases h;exact⟨v,lW rfl,b1⟩
  ·rw[if_neg (by grind)]at h
   rw[lX hi];exact BD h b2
def FY(bq:bj K F q v)(b:ay K F ps (kvs.map (·.2))) :
  ∃mQ vj,iH false (j,[]) q (kvs.map λy=>(y.1,[])) ps=⟨.eQ false mQ,vj⟩/\(putK kvs j v).map (λy=>(y.1,[]))=mQ/\ay K F vj ((putK kvs j v).map (·.2)):=by
 unfold iH putK;rw[vy,xo];cases e:(om kvs j).isSome with
 | false=>exact⟨_,_,rfl,by simp,by simpa using b.append (.cons bq .nil)⟩
 | true =>
  refine⟨_,_,rfl,?_,?_⟩
  ·rw[if_pos rfl,jn];exact List.map_congr_left λy _=>by grind
  ·rw[if_pos rfl];clear e;induction kvs generalizing ps with
   | nil=>rw[di,qJ];exact b
   | cons y r ih =>
    cases ps with
    | nil=>have:=b.length;simp at this
    | cons p ps =>
     obtain⟨v',w,e,b1,b2⟩:=b.bV;simp only[aQ,zz]at e;obtain⟨rfl,rfl⟩:=e;have ih:=ih b2;by_cases hy:y.1=j
     ·simpa only[aQ,sh,hy,eI]using ay.cons bq ih
     ·have:¬(y.1,([]:List bQ))=(j,[]):=by grind
      simpa only[aQ,sh,hy,this,cJ]using ay.cons b1 ih
def Ag(k:bQ×List bQ)(xs:List ((bQ×List bQ)×Addr×Value)):mj k (xs.map (·.1))=(atKey xs k).isSome:=(Dh xs k).symm
theorem BE:∀{xs:List ((bQ×List bQ)×Addr×Value)} {ps:List PV} {vs:List V} {p:PV},gX k (xs.map (·.1)) ps=some p->ay K F ps vs->Vals vs (xs.map (·.2.2))->∃a r v,atKey xs k=some (a,r)/\RelV v r/\bj K F p v
 | [],_,_,_,h,_,_=>by cases h
 | x::r,[],_,_,h,_,_=>by cases h
 | x::r,q::ps,vs,p,h,b,rv=>by
  obtain⟨v',w,rfl,b1,b2⟩:=b.bV;cases rv with
  | cons r1 r2 =>
   have h:(if x.1=k then some q else gX k (r.map (·.1)) ps)=some p:=h
   by_cases hi:x.1=k
   ·rw[if_pos hi]at h;cases h;exact⟨x.2.1,x.2.2,v',by simp[atKey,hi],r1,b1⟩
   ·rw[if_neg hi]at h;obtain⟨a,r',v,h1,h2,h3⟩:=BE h b2 r2;exact⟨a,r',v,by unfold atKey at h1 ⊢;rw[pG,dz hi];exact h1,h2,h3⟩
def FZ(bq:bj K F q v)(rq:RelV v r)(hc:Ej K F.F c k)(hk:fI K F.F xs)(b:ay K F ps vs)(rv:Vals vs (xs.map (·.2.2))) :
  ∃mQ vj wM,iH true k q (xs.map (·.1)) ps=⟨.eQ true mQ,vj⟩/\(storedH xs k c r).map (·.1)=mQ/\fI K F.F (storedH xs k c r)/\ay K F vj wM/\Vals wM ((storedH xs k c r).map (·.2.2)):=by
 unfold iH storedH;rw[Ag];cases e:(atKey xs k).isSome with
 | false =>
  refine⟨_,_,vs++[v],rfl,by simp,λx hx=>?_,b.append (.cons bq .nil),by simpa using rv.append (.cons rq .nil)⟩
  simp only[eF,cJ,cR,bz]at hx;rcases hx with hx | rfl
  ·exact hk x hx
  ·exact hc
 | true =>
  simp only[eI];have hm:(xs.map (putAt k r)).map (·.1)=xs.map (·.1):=by
   rw[jn];exact List.map_congr_left λy _=>by simp only[Function.comp,putAt];split<;>rfl
  have key:fI K F.F (xs.map (putAt k r)):=λx hx=>by
   obtain⟨y,hy,rfl⟩:=bX.mp hx;have:=hk y hy;unfold putAt;split<;>exact this
  suffices h:∃wM,ay K F (sh k q (xs.map (·.1)) ps) wM/\Vals wM ((xs.map (putAt k r)).map (·.2.2)) by
   obtain⟨wM,h1,h2⟩:=h;exact⟨_,_,wM,rfl,hm,key,h1,h2⟩
  clear e hk hm key;induction xs generalizing ps vs with
  | nil=>exact⟨vs,by rw[di,qJ];exact b,rv⟩
  | cons x xs ih =>
   cases ps with
   | nil=>rw[b.cx]at rv;cases rv
   | cons p ps =>
    obtain⟨v',w,rfl,b1,b2⟩:=b.bV;cases rv with
    | cons r1 r2 =>
     obtain⟨wM,h1,h2⟩:=ih b2 r2;by_cases hx:x.1=k
     ·exact⟨v::wM,by simpa only[aQ,sh,hx,eI]using ay.cons bq h1,by simpa only[aQ,putAt,hx,eI]using Paired.cons rq h2⟩
     ·exact⟨v'::wM,by simpa only[aQ,sh,hx,cJ]using ay.cons b1 h1,by simpa only[aQ,putAt,hx,cJ]using Paired.cons r1 h2⟩
end
def aZ:G2:=λh p q=>match p with
 | .str z=>(nC q).bind λi=>if z.length<=ic then(rV z.cps.toList i).map λc=>.str ⟨#[c]⟩else none
 | p=>match cS h p with
  | some (.au,ps)=>(nC q).bind (rV ps)
  | some (.lst,ps)=>(nC q).bind (rV ps)
  | some (.eQ t ks,ps)=>(fU t q).bind λk=>gX k ks ps
  | _=>none
section
variable {X:Cx} {af:Hp} {ag:Fz} {a b e:Expr} {fa fb:Gx PV} {pos:Pos}
def ixT(hu:X.A.units+1150<cLine):RL X (rT X.K aZ):=by
 rintro value slice ah s σ H x y v u Q I rx ry ⟨af,ag,F,st,τ,pa,pb,p,e,R,ba,bb,k⟩ hs
 have more:(match cS st.h pa with
  | some (.au,ps)=>(nC pb).bind (rV ps)
  | some (.lst,ps)=>(nC pb).bind (rV ps)
  | some (.eQ t ks,ps)=>(fU t pb).bind λk=>gX k ks ps
  | _=>none)=some p->wpAny (model X.prog X.w) X.A (subscriptTail value slice v u) (EP X ah σ Q) X.xe s:=λe=>by
  split at e
  ·rename_i z;obtain⟨i,e1,e2⟩:=aO e;rw[fL e1]at bb;rw[aG.mp bb]at ry;obtain⟨a,vs,rfl,ha,gW⟩:=R.at z ba;obtain⟨w,hw,bw⟩:=gW.rV e2;exact Oy value slice ah s σ H _ _ v u Q I rx ry ⟨a,vs,_,w,rfl,rfl,ha.2,hw,k _ H F R (Gr.refl F) bw⟩ hs
  ·rename_i z;obtain⟨i,e1,e2⟩:=aO e;rw[fL e1]at bb;rw[aG.mp bb]at ry;obtain⟨a,vs,rfl,ha,gW⟩:=R.at z ba;obtain⟨w,hw,bw⟩:=gW.rV e2;exact JJ value slice ah s σ H _ _ v u Q I rx ry ⟨a,vs,_,w,rfl,rfl,iR.sq ha,hw,k _ H F R (Gr.refl F) bw⟩ hs
  ·rename_i t ks ps z;obtain⟨kk,e1,e2⟩:=aO e;obtain⟨a,vs,rfl,ha,gW⟩:=R.at z ba;cases rx;cases t with
   | false =>
    obtain⟨kvs,g1,g2,g3⟩:=ha;obtain⟨j,rfl,rfl⟩:=mq e1 bb;subst g2 g3;obtain⟨w,hw,bw⟩:=BD e2 gW;obtain⟨_,hd,us,MB,dd⟩:=Bu I.hok (.inl g1);have hr:=MB.val j;rw[hw]at hr;cases hv:valueAt us j with
    | none=>rw[hv]at hr;exact hr.elim
    | some u' =>
     rw[hv]at hr;exact nj dd.typeIs PySem.F.slot_dict_getitem.lookup (wpAny_getItem_of (qu ry) dd.mapOf hv ⟨w,H,I.tok _,hr,k _ H F R (Gr.refl F) bw⟩) hs
   | true =>
    obtain⟨xs,g1,g2,g3,g4⟩:=ha;obtain⟨c,rfl,hc⟩:=jB e1 bb;cases ry;subst g3;obtain⟨ad,r,w,hw,JK,bw⟩:=BE e2 gW g4;obtain⟨_,hd,dd⟩:=s9 I (.inl g1) (λz hz=>ek R.sub (g2 z hz))
    obtain⟨o,_,_,ho,hx,_⟩:=id dd;refine nj ⟨o,ho,hx.1⟩ PySem.F.slot_dict_getitem.lookup (To (by lia) I (.inl g1) (λz hz=>ek R.sub (g2 z hz)) (ek R.sub hc) hw λs' I'=>⟨w,H,I',JK,k _ H F R (Gr.refl F) bw⟩) hs
  ·cases e
 cases pa with
 | str z =>
  obtain⟨i,e1,e2⟩:=aO e;rw[fL e1]at bb;obtain⟨hz,e2⟩:=bT e2;obtain⟨c,e3,rfl⟩:=aP e2;rw[bN.mp ba]at rx;rw[aG.mp bb]at ry;exact Oz value slice ah s σ H _ _ v u Q I rx ry ⟨z,i,c,rfl,rfl,dY hz,e3,k _ H F R (Gr.refl F) (bN.mpr rfl)⟩ hs
 | aL=>exact more e
 | bl _=>exact more e
 | int _=>exact more e
 | ref _=>exact more e
 | fn _=>exact more e
 | nd _ _=>exact more e
def Yw(hu:X.A.units+1150<cLine)(ha:PE X a (tE X af ag fa))(hb:PE X b (tE X af ag fb))(hs:lR b):PE X (.Subscript a b pos) (tE X af ag (op2 aZ fa fb)):=(Fx (ixT hu) ha hb hs).imp λ_ _ _ h=>oW h
def F0(n:Bool):G2:=λh p q=>match cS h q with
 | some (.eQ t ks,_)=>(fU t p).map λk=>.bl (if n=true then !mj k ks else mj k ks)
 | _=>(FI h q).bind λqs=>(Yu h p qs).map λb=>.bl (if n=true then !b else b)
def O8(hu:X.A.units+1150<cLine):oV X (compareOp .In) (F0 false):=by
 rintro ah s σ H x y v u Q I rx ry ⟨af,ag,F,st,τ,pa,pb,p,e,R,ba,bb,k⟩
 unfold F0 at e;split at e
 ·rename_i t ks ps z;obtain⟨kk,e1,rfl⟩:=aP e;obtain⟨a,vs,rfl,ha,gW⟩:=R.at z bb;cases ry;cases t with
  | false =>
   obtain⟨kvs,g1,g2,g3⟩:=ha;obtain⟨j,rfl,rfl⟩:=mq e1 ba;obtain⟨_,hd,us,MB,dd⟩:=Bu I.hok (.inl g1);refine wpAny_in_of (qu rx) hd dd.mapOf ⟨.bl (om kvs j).isSome,H,I.tok _,?_,k _ H F R (Gr.refl F) (br.mpr ?_)⟩
   ·rw[(MB.val j).sY];rfl
   ·rw[<-g2,vy];rfl
  | true =>
   obtain⟨xs,g1,g2,g3,g4⟩:=ha;obtain⟨c,rfl,hc⟩:=jB e1 ba;cases rx;exact Tj (by lia) I (.inl g1) (λz hz=>ek R.sub (g2 z hz)) (ek R.sub hc) λs' I'=>⟨.bl _,H,I',rfl,k _ H F R (Gr.refl F) (br.mpr (by rw[<-g3,Ag];rfl))⟩
 ·obtain⟨qs,e1,e⟩:=aO e;obtain⟨b,e2,rfl⟩:=aP e;exact(FP hu I rx ry R ba bb e1 e2).1 (k _ H F R (Gr.refl F) (br.mpr rfl))
def Ds(hu:X.A.units+1150<cLine):oV X (compareOp .NotIn) (F0 true):=by
 rintro ah s σ H x y v u Q I rx ry ⟨af,ag,F,st,τ,pa,pb,p,e,R,ba,bb,k⟩
 unfold F0 at e;split at e
 ·rename_i t ks ps z;obtain⟨kk,e1,rfl⟩:=aP e;obtain⟨a,vs,rfl,ha,gW⟩:=R.at z bb;cases ry;cases t with
  | false =>
   obtain⟨kvs,g1,g2,g3⟩:=ha;obtain⟨j,rfl,rfl⟩:=mq e1 ba;obtain⟨_,hd,us,MB,dd⟩:=Bu I.hok (.inl g1);refine wpAny_notIn_of (qu rx) hd dd.mapOf ⟨.bl (!(om kvs j).isSome),H,I.tok _,?_,k _ H F R (Gr.refl F) (br.mpr ?_)⟩
   ·rw[(MB.val j).sY];rfl
   ·rw[<-g2,vy];rfl
  | true =>
   obtain⟨xs,g1,g2,g3,g4⟩:=ha;obtain⟨c,rfl,hc⟩:=jB e1 ba;cases rx;exact Tn (by lia) I (.inl g1) (λz hz=>ek R.sub (g2 z hz)) (ek R.sub hc) λs' I'=>⟨.bl _,H,I',rfl,k _ H F R (Gr.refl F) (br.mpr (by rw[<-g3,Ag];rfl))⟩
 ·obtain⟨qs,e1,e⟩:=aO e;obtain⟨b,e2,rfl⟩:=aP e;exact(FP hu I rx ry R ba bb e1 e2).2 (k _ H F R (Gr.refl F) (br.mpr rfl))
end
def Ke:G2:=λ_ p q=>match q with | .aL=>some (.bl (!d8 p)) | .bl b=>(Yt b p).map λc=>.bl (!c) | _=>none
def Kf:oV X (compareOp .IsNot) Ke:=by
 rintro ah s σ H x y v u Q I rx ry ⟨af,ag,F,st,τ,pa,pb,p,e,R,ba,bb,k⟩
 unfold Ke at e;split at e
 ·cases e;exact Jv ah s σ H x y v u Q I rx ry ⟨cX.mp bb,k _ H F R (Gr.refl F) (br.mpr (by rw[Bz ba]))⟩
 ·rename_i b;obtain⟨c,e1,rfl⟩:=aP e;obtain⟨a,rfl,rfl⟩:=xx e1;rw[br.mp ba]at rx;rw[br.mp bb]at ry;cases rx;cases ry;exact wpAny_isNot_plain rfl ⟨.bl _,H,I,(by cases a<;>cases b<;>rfl),k _ H F R (Gr.refl F) (br.mpr rfl)⟩
 ·cases e
def Yx:G2:=nA (λ_ _=>true) λi j=>.bl (decide (j<i))
def Kg:G2:=λh p q=>match p,q with
 | .str a,.str b=>some (.bl (!(decide (b.cps.toList<a.cps.toList))))
 | p,q=>leO h p q
def O9:oV X (compareOp .LtE) Kg:=by
 rintro ah s σ H x y v u Q I rx ry ⟨af,ag,F,st,τ,pa,pb,p,e,R,ba,bb,k⟩
 unfold Kg at e;split at e
 ·cases e;rw[bN.mp ba]at rx;rw[bN.mp bb]at ry;obtain⟨t1,rfl⟩:=rx;obtain⟨t2,rfl⟩:=ry;exact PySem.P.le_str ⟨.bl _,H,I,rfl,k _ H F R (Gr.refl F) (br.mpr rfl)⟩
 ·exact eX (tm SV) (λ_ _ _=>trivial) (λ_ _ _=>br.mpr rfl) ah s σ H x y v u Q I rx ry ⟨af,ag,F,st,τ,pa,pb,p,e,R,ba,bb,k⟩
def Ah:CmpOp->Option G2
 | .Eq=>some lg
 | .NotEq=>some J3
 | .Lt=>some TX
 | .LtE=>some Kg
 | .Gt=>some Yx
 | .GtE=>some WK
 | .Is=>some RQ
 | .IsNot=>some Ke
 | .In=>some (F0 false)
 | .NotIn=>some (F0 true)
def jU(hu:X.A.units+1150<cLine)(h:Ah op=some g):oV X (compareOp op) g:=by
 have nn:∀i j:Int,(λ_ _=>true) i j=true->(λ_ _=>True) i j:=by grind
 cases op<;>cases h
 ·exact OZ hu
 ·exact O0 hu
 ·exact eX (tm SU) nn λ_ _ _=>br.mpr rfl
 ·exact O9
 ·exact eX (tm SW) nn λ_ _ _=>br.mpr rfl
 ·exact eX (tm SX) nn λ_ _ _=>br.mpr rfl
 ·exact O1
 ·exact Kf
 ·exact O8 hu
 ·exact Ds hu
end L2.U
namespace L2
open PySem PySem.Spec PyProof.Rows
section
variable {X:Cx}
def F6:PE X (.Dict [] [] pos) (Mv (.dK [])):=λah s σ H Q I h =>
 wpAny_Dict_empty ⟨.ref s.heap.objs.size,_,I.laid (o:=.dK []) (λ_ _ q=>aK _ q) (aF _)
  ⟨iA _,hZ.mpr (bU (bC (lY I))),[],.nil,Heap.DictOf.new s.heap⟩,rfl,h _ (I.hok.fresh (aF _))⟩
def Pa(K:W.Frag):V->List V->Hp->VK->Prop:=λx vs H Q=>∃l b xs zs,x=.ref l/\vs=[.ref b]/\H l=some (.lst xs)/\(iC K H b zs\/iR K H b zs)/\xs.length+zs.length<=sizeLine/\Q .aL (cU H l (.lst (xs++zs)))
def vz(l:Addr)(ax:Array Value)(n:Nat)(b:Addr)(more:Array Value)(n2:Nat)(dd:Option Addr)(sl:Array (Option Value))(h0:¬(!ax.isEmpty&&Builtin.List.listTooLong (ax.size+more.size))=true)(h1:ax.size<=sizeLine)(h2:ax.size+more.size<=sizeLine+1) :
  Meets (Builtin.«list.extend» ⟨[.ref l,.ref b],[]⟩) (λ_ R s=>s.heap.get? l=some {cls:=.type "list",dict:=none,data:=.seq ax n,slots:=#[]}/\s.heap.get? b=some {cls:=.type "tuple",dict:=dd,data:=.seq more n2,slots:=sl} /\
   R (.ok (.ret Value.none)) {s with heap:=s.heap.update l (Obj.mapSeq λx=>x++more),toks:=s.toks}) :=
 .of_wp λprog w A R s h=>by
  obtain⟨hp,g,d,tk,os⟩:=s;obtain⟨hl,hb,h⟩:=h;have f1:=AutoSeq1.idx_int;have f2:=AutoSeq1.sub_tuple_tuple;have f3:=AutoSeq1.sub_list_list;have f4:=AutoSeq1.sub_tuple_list;have f5:=AutoSeq1.sub_list_tuple
  wp_walk using (pM hl rfl (_hz':=(by rw[Array.size_append];exact h2))),jf hl,jf hb
  exact⟨_,rfl,h⟩
def Pb:Yi X "list.extend" (Pa X.K):=by
 intro ah s σ H x vs v us Q I rx rv h;obtain⟨l,b,xs,zs,rfl,rfl,hH,hB,hz,q⟩:=h;cases rx;obtain⟨u,rfl,ru⟩:=rv.one;cases ru;obtain⟨z,ax,n,r,hl,e⟩:=I.dN hH;have go:∀eK,Vals zs eK->(¬(!ax.toArray.isEmpty&&Builtin.List.listTooLong (ax.toArray.size+eK.toArray.size))=true/\ax.toArray.size<=sizeLine/\ax.toArray.size+eK.toArray.size<=sizeLine+1) /\
   EP X ah σ Q Value.none {s with heap:=s.heap.update l (Obj.mapSeq λx=>x++eK.toArray),toks:=s.toks}:=λeK r2=>by
  have WL:=r2.length;have hsz:ax.toArray.size+eK.toArray.size<=sizeLine:=by grind
  refine⟨⟨?_,by grind,(Nat.le_add_right_of_le ‹_›)⟩,.aL,_,I.OC hH e (by simp) (r.append r2) (by grind),rfl,q⟩
  rw[xm hsz,aS];exact cf
 rcases hB with hB | hB
 ·obtain⟨eK,r2,⟨⟨cls,dd,dat,sl⟩,e2,hc,n2,hd⟩,_⟩:=I.tuple hB;simp only at hc hd;subst hc hd;obtain⟨⟨g1,g2,g3⟩,g4⟩:=go eK r2;exact gf F.slot_list_extend ⟨_,e,rfl⟩ F.entry_list_extend (F.args_list_extend_2 _ _) (vz l ax.toArray n b eK.toArray n2 dd sl g1 g2 g3) ⟨e,e2,g4⟩
 ·obtain⟨eK,n2,r2,e2,_⟩:=I.lZ hB;obtain⟨⟨g1,g2,g3⟩,g4⟩:=go eK r2;exact gf F.slot_list_extend ⟨_,e,rfl⟩ F.entry_list_extend (F.args_list_extend_2 _ _) (AutoSeq1.list_extend_list_list_0 l ax.toArray n b eK.toArray n2 g1 g2 g3) ⟨e,e2,g4⟩
def BF(kvs:List (bQ×V))(k:bQ)(v:V):(putK kvs k v).length<=kvs.length+1:=by
 unfold putK;split
 ·grind
 ·grind
def Uc:E9:=λo i v H Q=>∃a kvs k,o=.ref a/\i=kV k/\H a=some (.dK kvs)/\kvs.length<sizeLine/\Q (cU H a (.dK (putK kvs k v)))
def Pc:Fb X Uc:=by
 rintro ah s σ H o i v ov iv u Q I ro ri rv ⟨a,kvs,k,ex,ey,e1,e2,q⟩
 subst ex ey;cases ro;obtain⟨z,hd,vs,MB,dd⟩:=Ti I.hok e1;refine wpAny_setItem_pairs (qu ri) dd (λh' RO Ud=>?_) (by rw[<-MB.length];exact z)
 have Yy:=MB.put k rv;have he:∃q,h'.get? a=some q:=let ⟨q,_,_,hq,_⟩:=RO;⟨q,hq⟩
 exact⟨_,I.write (o:=.dK (putK kvs k v)) (by rw[e1];exact True.intro) (.inl rfl) (λc q' hc z=>(Ud.2 c hc).trans z) he ⟨by have:=BF kvs k v;lia,hd,_,Yy,RO⟩,q⟩
def Ue(K:W.Frag):E9:=λo i v H Q=>∃a b xs k,o=.ref a/\i=.ref b/\H a=some (.dT xs)/\fI K H xs/\Ej K H b k/\xs.length<sizeLine/\∀r,RelV v r->Q (cU H a (.dT (storedH xs k b r)))
def Pd(hu:X.A.units+2<cLine):Fb X (Ue X.K):=by
 rintro ah s σ H o i v ov iv u Q I ro ri rv ⟨a,b,xs,k,ex,ey,e1,e2,e3,e4,q⟩
 subst ex ey;cases ro;cases ri;exact OE hu I e1 e2 e3 e4 λs4 I4=>⟨_,I4,q u rv⟩
end
end L2
namespace L2.U
open PySem PySem.Spec PyProof.Rows
abbrev MG:=aj->List PV->Option (aj×PV)
def i9(h:List aj):PV->Option (Nat×aj)
 | .ref n=>(h[n]?).bind λc=>if live c=true then some (n,c)else none
 | _=>none
def gw(e:i9 h p=some (n,c)):p=.ref n/\h[n]?=some c/\live c=true:=by
 cases p with
 | ref m =>
  obtain⟨d,e1,e2⟩:=aO e;obtain⟨hl,e3⟩:=aE e2;cases e3;exact⟨rfl,e1,hl⟩
 | _=>cases e
def fu(g:MG)(p:PV)(as:List PV):Gx PV:=λst=>(i9 st.h p).bind λc=>(g c.2 as).map λr=>(.ok r.2,⟨st.ρ,st.h.set c.1 r.1⟩)
section
variable {X:Cx} {af H:Hp} {ag F:Fz} {st:bY} {σ:St}
def F7(K:W.Frag)(r:V->List V->Hp->VK->Prop)(g:MG):Prop:=∀(af H:Hp) (ag F:Fz) (st:bY) (σ:St) (n:Nat) (c c':aj) (a:Addr) (as:List PV) (ws:List V) (q:PV) (Q:VK),
 Rep K af ag F st σ H->st.h[n]?=some c->live c=true->F.μ[n]?=some a->g c as=some (c',q)->ay K F as ws->(∀v F' H',Rep K af ag F' ⟨st.ρ,st.h.set n c'⟩ σ H'->Gr F F'->bj K F' q v->Q v H')->r (.ref a) ws H Q
def Rep.put(R:Rep X.K af ag F st σ H){c d:aj}(hc:st.h[n]?=some c)(hl:live c=true)(ha:F.μ[n]?=some a)(hn:kW X.K F.F (cU H a o) a true d.k vs)(hb:ay X.K F d.ps vs) :
  Rep X.K af ag F ⟨st.ρ,st.h.set n d⟩ σ (cU H a o):=⟨R.c.write hc hl ha hn hb,R.l⟩
noncomputable def dN(f:List PV->List PV->Option (List PV)):MG:=λc as=>match c.k with
 | .lst=>(f c.ps as).map λqs=>(⟨.lst,qs⟩,.aL)
 | _=>none
def Kh
  (h:∀(H:Hp) (F:Fz) (ps as qs:List PV) (vs ws:List V) (a:Addr) (Q:VK) (h:List aj),cw F.F H->f ps as=some qs->H a=some (.lst vs)->ay X.K F ps vs->ay X.K F as ws->(∀wM,ay X.K F qs wM->Q .aL (cU H a (.lst wM)))->r (.ref a) ws H Q):F7 X.K r (dN f):=by
 intro af H ag F st σ n c c' a as ws q Q R hc hl ha hg hb k;unfold dN at hg;split at hg
 ·rename_i hk;obtain⟨qs,e1,e2⟩:=aP hg;cases e2;obtain⟨_,vs,h2,h3⟩:=R.c.cell n c a hc ha hl;rw[hk]at h2;exact h H F c.ps as qs vs ws a Q st.h R.sub e1 h2 h3 hb λwM b'=>k _ F _ (R.put hc hl ha aA b') (Gr.refl _) (cX.mpr rfl)
 ·cases hg
def fw:List PV->List PV->Option (List PV):=λps as=>match as with | [p]=>if ps.length<ic then some (ps++[p])else none | _=>none
def Ki:F7 X.K Bt (dN fw):=Kh λH F ps as qs vs ws a Q h hs hf ha bp ba k=>by
 unfold fw at hf;split at hf
 ·obtain⟨hl,rfl⟩:=aE hf;obtain⟨v,rfl,b⟩:=et ba;exact⟨a,vs,v,rfl,rfl,ha,by rw[<-bp.length];exact cj hl (dY (aF _)),k _ (bp.append ba)⟩
 ·cases hf
def ow(p:PV)(as:List PV):Gx PV:=λst=>match as with
 | [q]=>(FI st.h q).bind λrs=>fu (dN λps _=>if ps.length+rs.length<=ic then some (ps++rs)else none) p [] st
 | _=>none
def Tx.mut(hg:F7 X.K r g)(h:Tx X af ag (bj X.K) F st (fu g p as) σ Q)(R:Rep X.K af ag F st σ H)(bp:bj X.K F p v)(ba:ay X.K F as ws):r v ws H Q:=by
 obtain⟨q,h1,h2⟩:=h;obtain⟨⟨n,c⟩,e1,e2⟩:=aO h1;obtain⟨⟨c',x⟩,e3,e4⟩:=aP e2;subst e4;obtain⟨rfl,hc,hl⟩:=gw e1;obtain⟨a,ha,rfl⟩:=dm.mp bp;exact hg af H ag F st σ n c c' a as ws x Q R hc hl ha e3 ba λv F' H' R' g' b'=>h2 v H' F' R' g' b'
def Tx.ext{Q:VK}(h:Tx X af ag (bj X.K) F st (ow p as) σ Q)(R:Rep X.K af ag F st σ H)(bp:bj X.K F p v)(ba:ay X.K F as ws):Pa X.K v ws H Q:=by
 obtain⟨x,h1,h2⟩:=h;unfold ow at h1;split at h1
 ·rename_i q;obtain⟨rs,e0,h1⟩:=aO h1;obtain⟨w,rfl,bw⟩:=et ba;obtain⟨b,zs,rfl,hs,hb⟩:=R.seq e0 bw;obtain⟨⟨n,c⟩,e1,e2⟩:=aO h1;obtain⟨⟨c',y⟩,e3,e4⟩:=aP e2;subst e4;obtain⟨rfl,hc,hl⟩:=gw e1;obtain⟨a,ha,rfl⟩:=dm.mp bp;unfold dN at e3;split at e3
  ·rename_i hk;obtain⟨qs,e5,e6⟩:=aP e3;cases e6;obtain⟨hz,rfl⟩:=aE e5;obtain⟨_,vs,g2,g3⟩:=R.c.cell n c a hc ha hl;rw[hk]at g2;exact⟨a,b,vs,zs,rfl,rfl,g2,hs,by rw[<-g3.length,<-hb.length];exact dY hz,h2 .aL _ F (R.put hc hl ha aA (g3.append hb)) (Gr.refl _) (cX.mpr rfl)⟩
  ·cases e3
 ·cases h1
end
section
variable {prog:Program} {w:World} {A:Around} {R:Result->Shared->Prop} {s:Shared}
abbrev nb(prog:Program)(w:World)(A:Around)(env:Env)(R:Result->Shared->Prop):Value->Shared->Prop:=notedBy (model prog w) A env λe s'=>R (.error e) s'
noncomputable abbrev BG(ifs:List Expr)(env:Env):Sem Bool:=forIn ifs true λc r=>if r=true then do let ok <-isTrue c env (eval c env);pure (ForInStep.yield ok)else pure (ForInStep.yield r)
def Dt(I:Nat->Shared->Prop)
  (qf:∀n s,I n s->wpAny (model prog w) A (pyNext it) (λr s1=>match r with
   | none=>R (.ok .next) s1
   | some v=>wpAny (model prog w) A (letOwnedTupleGo tg it v) (λ_ s1'=>wpAny (model prog w) A (assign tg env v) (λ_ s2=>wpAny (model prog w) A (BG ifs env) (λok s3 =>
      if ok=true then wpAny (model prog w) A (eval elt env) (λx s4=>wpAny (model prog w) A (call (.builtin "list.append") [acc,x]) (λ_ s5=>∃m,m<n/\I m s5) (nb prog w A env R) s4) (nb prog w A env R) s3
      else ∃m,m<n/\I m s3) (nb prog w A env R) s2) (nb prog w A env R) s1') (nb prog w A env R) s1) (nb prog w A env R) s)
  (n:Nat) (h:I n s):codeAny (model prog w) A (.compLoop (.ListComp elt [⟨tg,iter,ifs,0⟩] scope pos) 0 it acc env) R s:=by
 refine codeAny_loop rfl I (λn s hI=>?_) n h
 refine wpAny_noted ?_;rw[compTurn_list];refine ai (uQ (ai (thn (qf n s hI) λr s1 h1=>?_)))
 cases r with
 | none=>exact ar h1
 | some v =>
  refine ai (thn h1 λ_ s1' Yz=>ai (thn Yz λ_ s2 h2=>ai (thn h2 λok s3 h3=>?_)))
  cases ok with
  | false=>exact ar ⟨rfl,h3⟩
  | true=>exact ai (ai (thn h3 λx s4 h4=>ai (thn h4 λ_ s5 h5=>ar (ar ⟨rfl,h5⟩))))
end
noncomputable def nF(env:Env):List (Str×NameKind)->List (Str×Addr)->List (Str×Addr)
 | [],cs=>cs
 | (n,k)::r,cs=>nF env r (if k==.free then(match env.cells.lookup n with | some c=>(n,c)::cs | none=>cs)else cs)
def Ai(h:∀y∈scope.names,y.2=.free->∃c,env.cells.lookup y.1=some c):closureFor scope env=pure (nF env scope.names []):=by
 have all:∀(l:List (Str×NameKind)) (cs:List (Str×Addr)),(∀y∈l,y.2=.free->∃c,env.cells.lookup y.1=some c) ->
   (forIn l cs λx r=>(match x with | (name,kind)=>if(kind==NameKind.free)=true then do let a <-cellOf env name;pure (ForInStep.yield ((name,a)::r))else pure (ForInStep.yield r):Sem (ForInStep (List (Str×Addr)))))=pure (nF env l cs):=by
  intro l;induction l with
  | nil=>intro cs _;rfl
  | cons y l ih =>
   intro cs hl;obtain⟨n,k⟩:=y;rw[mY];by_cases hk:k=.free
   ·subst hk;obtain⟨c,hc⟩:=hl (n,.free) dw rfl;have Em:=hc;have e1:cellOf env n=pure c:=by unfold cellOf;rw[Em]
    simp only[e1,nF,Em];exact ih _ λy hy=>hl y (cG _ hy)
   ·have hb:(k==NameKind.free)=false:=by simpa using hk
    simp only[hb,nF];exact ih _ λy hy=>hl y (cG _ hy)
 unfold closureFor;have:=all scope.names [] h;simp only[bind_pure]at this ⊢;exact this
theorem xE:∀(l:List (Str×NameKind)) (cs:List (Str×Addr)) (p:Str×Addr),p∈nF env l cs->p∈cs\/env.cells.lookup p.1=some p.2
 | [],_,_,h=>.inl h
 | (n,k)::r,cs,p,h=>by
  unfold nF at h;rcases xE r _ p h with q | q
  ·grind
  ·grind
def dM(h:(nF env l []).lookup x=some c):env.cells.lookup x=some c:=by
 rcases xE l [] (x,c) (fB h)with q | q
 ·cases q
 ·exact q
theorem tu:∀(l:List (Str×NameKind)) (cs:List (Str×Addr)),(∃c,(x,c)∈cs)->∃c,(x,c)∈nF env l cs
 | [],_,h=>h
 | (n,k)::r,cs,⟨c,h⟩=>by
  unfold nF;refine tu r _ ⟨c,?_⟩;split
  ·grind
  ·exact h
theorem qK:∀(l:List (Str×NameKind)) (cs:List (Str×Addr)),(x,NameKind.free)∈l->(∃c,env.cells.lookup x=some c)->∃c,(x,c)∈nF env l cs
 | [],_,h,_=>by cases h
 | (n,k)::r,cs,h,hc=>by
  unfold nF;rcases aC.mp h with z | z
  ·cases z;obtain⟨c,e⟩:=hc;refine tu r _ ⟨c,?_⟩;simp[e]
  ·exact qK r _ z hc
theorem ie:∀{l:List (Str×Addr)},(x,c)∈l->∃c',l.lookup x=some c'
 | [],h=>by cases h
 | (n,d)::r,h=>by
  rw[dy];cases hx:x==n with
  | true=>exact⟨d,rfl⟩
  | false =>
   rcases aC.mp h with z | z
   ·grind
   ·exact ie z
def cu(X:Cx)(N:List Str)(scope:Scope)(C:Addr)(s:Shared)(H:Hp)(fp:List Addr):Cx where
 prog:=X.prog
 w:=X.w
 K:=X.K
 mg:=X.mg
 base:=X.base
 A:=X.A
 N:=N
 s₀:=s
 af:=H
 env:=compEnvC scope (nF X.env scope.names []) C X.env
 aB:=X.stack
 stack:=X.stack
 ex:=fp
 fn:=λ_=>false
 calm:=X.calm
 pn:=[]
 xe:=λ_ _=>False
theorem gK{env:Env}:∀(names:List (Str×NameKind)) (x:Str),(names.map fun(n,k)=>if(k==NameKind.free&&env.scope.kind==.function&&env.kindOf n==some .cell)then(n,NameKind.cell)else(n,k)).lookup x =
  (names.lookup x).map λk=>if(k==NameKind.free&&env.scope.kind==.function&&env.kindOf x==some .cell)then NameKind.cell else k
 | [],_=>rfl
 | (n,j)::r,x=>by
  have e:(if(j==NameKind.free&&env.scope.kind==.function&&env.kindOf n==some .cell)=true then(n,NameKind.cell)else(n,j))=(n,if(j==NameKind.free&&env.scope.kind==.function&&env.kindOf n==some .cell)=true then NameKind.cell else j):=by split<;>rfl
  show List.lookup x ((if(j==NameKind.free&&env.scope.kind==.function&&env.kindOf n==some .cell)=true then(n,NameKind.cell)else(n,j))::_)=_
  rw[e,dy,dy];cases hx:x==n with
  | true =>
   have Aj:=aV hx;subst Aj;rfl
  | false=>exact gK r x
def mr{env:Env}{names:List (Str×NameKind)}(h:(names.map fun(n,k)=>if(k==NameKind.free&&env.scope.kind==.function&&env.kindOf n==some .cell)then(n,NameKind.cell)else(n,k)).lookup x=some k) :
  names.lookup x=some k\/(k=.cell/\names.lookup x=some .free):=by
 rw[gK]at h;cases z:names.lookup x with
 | none=>rw[z]at h;cases h
 | some j =>
  rw[z]at h;have h:(if(j==NameKind.free&&env.scope.kind==.function&&env.kindOf x==some .cell)=true then NameKind.cell else j)=k:=by grind
  split at h
  ·grind
  ·grind
def vA{env:Env}{names:List (Str×NameKind)}(h:names.lookup x=some .free) :
  (names.map fun(n,k)=>if(k==NameKind.free&&env.scope.kind==.function&&env.kindOf n==some .cell)then(n,NameKind.cell)else(n,k)).lookup x=some .cell \/
  (names.map fun(n,k)=>if(k==NameKind.free&&env.scope.kind==.function&&env.kindOf n==some .cell)then(n,NameKind.cell)else(n,k)).lookup x=some .free:=by
 rw[gK,h];show some (if _ then _ else _)=_\/some (if _ then _ else _)=_
 split
 ·grind
 ·grind
structure il (X:Cx) (N:List Str) (link:List (Option Nat)) (scope:Scope):Prop where
 kind:scope.kind=.function
 cell:∀y∈scope.names,y.2≠.cell
 names:∀y∈scope.names,y.2=.local->scope.names.lookup y.1=some .local
 free:∀y∈scope.names,y.2=.free->(X.env.kindOf y.1=some .cell\/X.env.kindOf y.1=some .free)
 len:link.length=N.length
 link:∀(i j:Nat) (x:Str),link[i]?=some (some j)->N[i]?=some x->X.N[j]?=some x/\scope.names.lookup x=some .free
noncomputable def iW(link:List (Option Nat))(σ:St):St:=link.map λo=>o.bind λj=>(σ[j]?).join
section
variable {X:Cx} {ah:List (Addr×Obj)} {σ:St} {H:Hp} {s:Shared}
def Inv.adopt(I:Inv X ah σ H s)(hn:H D=none)(h1:X.s₀.heap.objs.size<=D)(h2:D≠X.env.locals)(h3:∀x c,X.env.cells.lookup x=some c->c≠D)(h4:∀p∈X.pn++ah,p.1≠D)
  (ho:fQ X.prog X.w (cU H D o) s.heap D o):Inv X ah σ (cU H D o) s:=by
 have ne:∀b u,H b=some u->b≠D:=λb u e z=>by rw[z,hn]at e;cases e
 refine I.step (ch:=[D]) (λb hb=>?_) (λb u _ _ _ e _=>e) (λb u _ _ _ e _=>⟨u.slots,e⟩) (λb u hc _ n=>?_) (λb u _ e=>⟨u,e⟩)
  (λb xs e=>by rw[aN (ne b _ e)];exact e) (λb u xs e=>by rw[aN (ne b _ e)];exact e) (λb ps e=>by rw[aN (ne b _ e)];exact e) (λm hm=>hm) (λb u e=>?_) I.bare
 ·have e:b=D:=by simpa using hb
  subst e;exact⟨.inr h1,h2,h3,h4⟩
 ·rw[aN (λz=>hc (by simp[z]))];exact n
 ·by_cases hb:b=D
  ·subst hb;rw[aA]at e;cases e;exact ho
  ·rw[aN hb]at e;exact(I.hok b u e).w5 (λ_ _ _ q=>q) (λc q=>by rw[aN (ne c _ q)];exact q) (λc xs q=>by rw[aN (ne c _ q)];exact q) λc ob v q=>by rw[aN (ne c _ q)];exact q
def Ak{N:List Str}{link:List (Option Nat)}(S:il X N link scope)(I:Inv X ah σ H s)(WO:∀b∈fp,qg X ah H b)
  (hC:s.heap.objs.size<=C) (ns:h.Ns C λ_=>none) (hk:∀b o,s.heap.get? b=some o->h.get? b=some o) (hex:∀b∈fp,∃o,s.heap.get? b=some o) :
  Inv (cu X N scope C s H fp) [] (iW link σ) H {s with heap:=h,toks:=tk}:=by
 have xa:∀y∈scope.names,y.2=.free->∃c,X.env.cells.lookup y.1=some c:=λy hy hf=>I.ok.has y.1 (S.free y hy hf)
 have YA:∀x c,X.env.cells.lookup x=some c->c<s.heap.objs.size:=λx c e=>let ⟨v,o,ho,_⟩:=I.cell x c e;aH ho
 refine⟨⟨I.ok.mod,S.kind,I.ok.glob,I.ok.blt,hC,λx y c h1 h2=>I.ok.inj x y c (dM h1) (dM h2),λx hx=>?_,λx c hx=>(by cases hx),I.ok.hd,I.ok.frames,.inl rfl,λb hb=>⟨?_,λx c e=>(WO b hb).2.2.2.2.1 x c (dM e)⟩,I.bs,aY I.ok.bsz I.sz,
  λb o e hb=>?_,λb hb z=>?_,I.stack,I.uZ,I.tabs⟩,rfl,I.bare,Un.kept hk,⟨_,ns,λi x v e1 e2 e3=>?_⟩,λx c e=>?_,I.hok.fresh hC,λx c e=>I.freeC x c (dM e),λp hp=>(by cases hp),I.hok.kept hk,by unfold iW;rw[aU];exact S.len⟩
 ·-- IT cells Xk there
  have Aj:=hx;have hf:scope.names.lookup x=some .free:=by
   rcases Aj with h1 | h1
   ·rcases mr h1 with q | ⟨_,q⟩
    ·exact absurd rfl (S.cell _ (fB q))
    ·exact q
   ·rcases mr h1 with q | ⟨z,_⟩
    ·exact q
    ·cases z
  have hm:=fB hf;obtain⟨c,hc⟩:=qK scope.names [] hm (xa _ hm rfl);exact ie hc
 ·intro z;obtain⟨o,ho⟩:=hex b hb;exact absurd (cj (aH ho) (aY hC (jo z.symm))) (fH _)
 ·rcases(WO b hb).2.2.2.1 with z | z
  ·exact I.ok.noex b o e z
  ·exact absurd (cj (aH e) (aY I.ok.bsz z)) (fH _)
 ·rcases aC.mp (I.uY b z)with q | q
  ·exact(WO b hb).2.1 q
  ·exact(WO b hb).2.2.1 q
 ·-- a slot: aaO acN from IT YB
  have hi:i<link.length:=by
   have:=(dS.mp e2).1;unfold iW at this
   rwa [aU]at this
  unfold iW at e2;rw[cQ,eE hi]at e2;have e2:=aX e2;cases z:link[i]with
  | none=>rw[z]at e2;cases e2
  | some j =>
   rw[z]at e2;have e2:(σ[j]?).join=some v:=e2;obtain⟨hX,hf⟩:=S.link i j x (by rw[eE hi,z]) e1
   have hm:=fB hf;have hk2:=S.free _ hm rfl;obtain⟨m,hn,hl⟩:=I.loc;obtain⟨u,r,l⟩:=hl j x v hX (by
    cases q:σ[j]? with
    | none=>rw[q]at e2;cases e2
    | some q'=>rw[q]at e2;cases q' with
     | none=>cases e2
     | some v'=>cases e2;rfl) (by rcases hk2 with q | q;exact .inr (.inl q);exact .inr (.inr q))
   refine⟨u,r,.inr ⟨vA hf,?_⟩⟩;obtain⟨c,hc⟩:=qK scope.names [] hm (xa _ hm rfl);obtain⟨c',Em⟩:=ie hc;refine⟨c',Em,?_⟩;rcases l with⟨lk,_⟩ | ⟨_,d,hd,sR⟩
   ·rcases hk2 with q | q<;>(rw[show X.env.kindOf x=some .local from lk]at q;cases q)
   ·have:=dM Em;rw[hd]at this;cases this;exact sR.keeps hk
 ·obtain⟨v,o,ho,hd⟩:=I.cell x c (dM e);exact⟨v,o,hk _ _ ho,hd⟩
end
abbrev TB:=V->St->Hp->(Option V->St->Hp->Prop)->Prop
def PB(X:Cx)(tg:Expr)(ifs:List Expr)(elt:Expr)(tb:TB):Prop :=
 ∀(ah:List (Addr×Obj)) (s:Shared) (σ:St) (H:Hp) (v:V) (u:Value) (Q:Option V->St->Hp->Prop),Inv X ah σ H s->RelV v u->tb v σ H Q ->
  wpAny (model X.prog X.w) X.A (assign tg X.env u) (λ_ s2=>wpAny (model X.prog X.w) X.A (BG ifs X.env) (λok s3 =>
   if ok=true then wpAny (model X.prog X.w) X.A (eval elt X.env) (λy s4=>∃v' bG H',Inv X ah bG H' s4/\RelV v' y/\Q (some v') bG H') X.xe s3
   else ∃bG H',Inv X ah bG H' s3/\Q none bG H') X.xe s2) X.xe s
def F8(hg:PG X tg g)(he:PE X elt te):PB X tg [] elt (λv σ H Q=>g v σ H λiE H1=>te iE H1 λy H2=>Q (some y) iE H2):=by
 intro ah s σ H v u Q I r h;refine thn (hg ah s σ H v u _ I r h) λ_ s2 ⟨iE,H1,I1,q1⟩=>ar ?_
 rw[if_pos rfl];exact thn (he ah s2 iE H1 _ I1 q1) (by rintro y s4 ⟨v',H2,I2,r2,q2⟩;exact⟨v',iE,H2,I2,r2,q2⟩)
def Kj(hg:PG X tg g)(hc:PT X c tc)(he:PE X elt te) :
  PB X tg [c] elt (λv σ H Q=>g v σ H λiE H1=>tc iE H1 λb H2=>if b=true then te iE H2 λy H3=>Q (some y) iE H3 else Q none iE H2):=by
 intro ah s σ H v u Q I r h;refine thn (hg ah s σ H v u _ I r h) λ_ s2 ⟨iE,H1,I1,q1⟩=>?_
 refine wpAny_tests_one (thn (hc ah s2 iE H1 _ I1 q1) λb s3 ⟨H2,I2,q2⟩=>?_)
 cases b with
 | true =>
  rw[if_pos rfl]at q2 ⊢;exact thn (he ah s3 iE H2 _ I2 q2) (by rintro y s4 ⟨v',H3,I3,r3,q3⟩;exact⟨v',iE,H3,I3,r3,q3⟩)
 | false =>
  rw[if_neg cf]at q2 ⊢;exact⟨iE,H2,I2,q2⟩
def tx(link:List (Option Nat))(wi:TI)(tb:TB):TE:=λσ H Q=>wi σ H λJ H1=>∃W:Nat->Nat->List V->St->Hp->Prop,(∃m,W 0 m [] (iW link σ) H1)/\∀i m acc bG H',W i m acc bG H' ->
 (J.stop i H'/\acc.length<=sizeLine/\∀D,H' D=none->Q (.ref D) (cU H' D (.lst acc))) \/
 (J.go i H'/\acc.length<sizeLine/\∀x H2,J.yld i H' x H2->tb x bG H2 λo oi H3=>∃m',m'<m/\W (i+1) m' (acc++o.toList) oi H3)
structure YC (X:Cx) (ah:List (Addr×Obj)) (H:Hp) (C:Addr):Prop where
 free:H C=none
 above:X.s₀.heap.objs.size<=C
 loc:C≠X.env.locals
 cell:∀x c,X.env.cells.lookup x=some c->c≠C
 pin:∀p∈X.pn++ah,p.1≠C
def tD(hc:X.calm=true)(S:il X N link scope)(hi:PI X tg iter wi)
  (hb:∀(C:Addr) (s:Shared) (H:Hp) (fp:List Addr),PB (cu X N scope C s H fp) tg ifs elt tb) (hs:∀x,foldedSetIterable iter X.env x=pure x) (I:Inv X ah σ H s) (h:tx link wi tb σ H Q)
  (YD:∀(s5:Shared) (D C:Addr) (H5:Hp) (m:Str->Option Value),Inv X ah σ H5 s5->Q (.ref D) H5->s5.heap.Ns C m->YC X ah H5 C->compPost (model X.prog X.w) X.A X.xe use Q' (.ref D) C (.ok .next) s5) :
  wpAny (model X.prog X.w) X.A (comprehension (.ListComp elt [⟨tg,iter,ifs,0⟩] scope pos) scope X.env oh (newList []) false (eval iter X.env) use) Q' X.xe s:=by
 have xa:∀y∈scope.names,y.2=.free->∃c,X.env.cells.lookup y.1=some c:=λy hy hf=>I.ok.has y.1 (S.free y hy hf)
 refine wpAny_comprehension_free rfl hs (Ai xa) S.kind S.names (thn (hi ah s σ H _ I h) λv s1 h1=>thn h1 λXS s2 h2=>?_)
 obtain⟨it,fp,tn,J,H2,rfl,I2,T,dG,f2,W,⟨m0,w0⟩,qf⟩:=h2;refine kJ (wpAny_newFunctionEnv S.cell (by grind) (λgL ns sb=>?_) S.kind)
 dsimp only at ns sb ⊢
 generalize hD:s2.heap.push {cls:=.type "list",dict:=none,data:=.seq [].toArray}=HD at ns sb ⊢
 have hC:HD.objs.size=s2.heap.objs.size+1:=by rw[<-hD,eG]
 have WQ:s2.heap.objs.size≠HD.objs.size:=by grind
 have F9:s2.heap.objs.size<=HD.objs.size:=by grind
 have old:∀b o,s2.heap.get? b=some o->gL.get? b=some o:=λb o e=>by
  have oX:=aH e;exact sb.extBut b o (bC (cj oX F9)) (aK _ (by rw[<-hD];exact aK _ e))
 have YE:gL.get? s2.heap.objs.size=some {cls:=.type "list",data:=.seq [].toArray} :=
  sb.extBut _ _ WQ (aK _ (by rw[<-hD];exact bL _ rfl))
 generalize eD:s2.heap.objs.size=D at *
 generalize eC:HD.objs.size=C at *
 have exO:∀b∈fp,∃o,s2.heap.get? b=some o:=λb jS=>let ⟨o,e,_⟩:=T.obj _ _ dG b jS;⟨o,e⟩
 have I3:∀tk,Inv (cu X N scope C s2 H2 fp) [] (iW link σ) H2 {s2 with heap:=gL,toks:=tk}:=λtk =>
  Ak S I2 f2 (by rw[eD];exact F9) ns old exO
 have fpD:∀b∈fp,b≠D:=λb jS z=>by
  obtain⟨o,e⟩:=exO b jS;have:=aH e;rw[z,<-eD]at this;exact fH _ this
 have zR:∀{H':Hp} {pl:List (Addr×Obj)},(∀b∈fp,H' b=none)->(∀p∈pl,p.1=D)->∀b∈fp,qg (cu X N scope C s2 H2 fp) pl H' b:=λ{H' pl} hn hp b jS=>by
  have K0:=(I3 0).ok.exf b jS;exact⟨hn b jS,K0.1,(I3 0).ok.exfs b jS,.inl jS,K0.2,λp Du z=>fpD b jS (z▸hp p (by simpa[cu]using Du))⟩
 have Ug:∀x c,(cu X N scope C s2 H2 fp).env.cells.lookup x=some c->c≠D:=λx c e z=>by
  obtain⟨v,o,ho,_⟩:=I2.cell x c (dM e);have:=aH ho;rw[z,<-eD]at this;exact fH _ this
 have fsD:D∉(cu X N scope C s2 H2 fp).fs:=λz=>by
  obtain⟨_,o,ho,_⟩:=I2.stack.mem z;have:=aH ho;rw[<-eD]at this;exact fH _ this
 have loop:∀s3:Shared,s3={s2 with heap:=gL,toks:=s2.toks+([]:List (Str×Value)).length} ->
   codeAny (model X.prog X.w) X.A (.compLoop (.ListComp elt [⟨tg,iter,ifs,0⟩] scope pos) 0 (.ref it) (.ref D) (cu X N scope C s2 H2 fp).env) (compPost (model X.prog X.w) X.A X.xe use Q' (.ref D) C) s3:=by
  rintro s3 rfl
  refine Dt (λn s'=>∃i acc bG H' ax nn,Inv (cu X N scope C s2 H2 fp) [] bG H' s'/\tn i s'.heap/\(∀b∈fp,H' b=none)/\H' D=none/\s'.heap.get? D=some {cls:=.type "list",data:=.seq ax.toArray nn}/\Vals acc ax/\W i n acc bG H') ?_ m0
   ⟨0,[],_,H2,[],0,I3 _,T.keep _ _ _ dG λb jS o e=>old b o e,λb jS=>(f2 b jS).1,I2.hok.fresh (jo eD),YE,.nil,w0⟩
  rintro n s4 ⟨i,acc,Mx,H4,ax,nn,I4,Eo,fr4,hD4,FC,hv,w4⟩
  have Uh:Inv (cu X N scope C s2 H2 fp) [(D,{cls:=.type "list",data:=.seq ax.toArray nn})] Mx H4 s4:=I4.lO λp hp=>by
   have e:p=(D,{cls:=.type "list",data:=.seq ax.toArray nn}):=by simpa using hp
   subst e;exact⟨FC,hD4,WQ,fsD,λv=>by simp⟩
  have Ga:∀p∈[(D,({cls:=.type "list",data:=.seq ax.toArray nn}:Obj))],p.1=D:=λp hp=>by
   have e:p=(D,{cls:=.type "list",data:=.seq ax.toArray nn}):=by simpa using hp
   rw[e]
  rcases qf i n acc Mx H4 w4 with⟨stop,hz,q⟩ | ⟨go,hz,step⟩
  ·refine thn (T.done (cu X N scope C s2 H2 fp) rfl rfl rfl hc i _ s4 Mx H4 _ Uh (zR fr4 Ga) Eo stop) λr s5 ⟨hr,I5⟩=>?_
   subst hr;obtain⟨m,hn,_⟩:=I5.loc;have pD:=I5.pin (D,{cls:=.type "list",data:=.seq ax.toArray nn}) (fA _ (bz.mpr rfl))
   have MC:∀b o,s2.heap.get? b=some o->b≠D/\b≠C:=λb o e=>by
    have:=aH e;rw[eD]at this;exact⟨bC this,bC (cj this F9)⟩
   have MD:X.env.locals≠D/\X.env.locals≠C:=by
    have:=I2.lt;rw[eD]at this;exact⟨bC this,bC (cj this F9)⟩
   have I6:=I2.Ml I5.os I5.base I5.hok I5.bare λb jS=>⟨(f2 b jS).2.2.2.1,(f2 b jS).2.1,(f2 b jS).2.2.2.2.1,(f2 b jS).2.2.2.2.2⟩
   have I7:=Inv.adopt (o:=.lst acc) I6 pD.2.1 (aY I2.sz (jo eD)) (bU MD.1) (λx c e=>let ⟨v,o,ho,_⟩:=I2.cell x c e;(MC c o ho).1)
    (λp hp=>(MC p.1 p.2 (I2.pin p hp).1).1) ⟨hz,ax,nn,hv,pD.1⟩
   exact YD s5 D C _ m I7 (q D pD.2.1) hn ⟨by rw[aN (bU WQ)];exact I5.free,aY (aY I2.sz (jo eD)) F9,bU MD.2,λx c e=>let ⟨v,o,ho,_⟩:=I2.cell x c e;(MC c o ho).2,λp hp=>(MC p.1 p.2 (I2.pin p hp).1).2⟩
  ·refine thn (T.item (cu X N scope C s2 H2 fp) rfl rfl rfl hc i _ s4 Mx H4 _ Uh (zR fr4 Ga) Eo go) λr s5 ⟨u,hr,h5⟩=>?_
   subst hr;refine thn h5 λ_ s5' z9=>?_
   obtain⟨x,H5,I5,r5,y5,N9,XX⟩:=z9;have XY:=I5.pinned (zR XX Ga) (T.obj _ _ N9);have jc:∀{o:Option V} {WB:St} {H6:Hp} {s6:Shared},Inv (cu X N scope C s2 H2 fp) ([(D,{cls:=.type "list",data:=.seq ax.toArray nn})]++qh fp s5'.heap) WB H6 s6 ->
     tn (i+1) s6.heap/\(∀b∈fp,H6 b=none)/\H6 D=none/\s6.heap.get? D=some {cls:=.type "list",data:=.seq ax.toArray nn}:=λ{o WB H6 s6} I6=>by
    have pD:=I6.pin (D,_) (fA _ (mT _ (bz.mpr rfl)));refine⟨T.keep _ _ _ N9 λb jS o e=>(I6.pin (b,o) (fA _ (fA _ (iF jS e)))).1,λb jS=>?_,pD.2.1,pD.1⟩
    obtain⟨o,e,d⟩:=T.obj _ _ N9 b jS;exact(I6.pin (b,o) (fA _ (fA _ (iF jS e)))).2.1
   refine jq (hb C s2 H2 fp _ s5' Mx H5 x u _ XY r5 (step x H5 y5)) (λ_ s6 h6=>jq h6 (λok s7 h7=>?_) λ_ _ z=>False.elim z) λ_ _ z=>False.elim z
   cases ok with
   | false =>
    rw[if_neg cf]at h7 ⊢;obtain⟨WR,H8,I8,m',Kk,w8⟩:=h7;obtain⟨a1,a2,a3,a4⟩:=jc (o:=none) I8;exact⟨m',Kk,i+1,_,WR,H8,ax,nn,I8.lO (λp hp=>by cases hp),a1,a2,a3,a4,by simpa using hv,w8⟩
   | true =>
    rw[if_pos rfl]at h7 ⊢;refine jq h7 (λy s8 z9=>?_) λ_ _ z=>False.elim z
    obtain⟨v8,WR,H8,I8,r8,m',Kk,w8⟩:=z9;obtain⟨a1,a2,a3,a4⟩:=jc (o:=some v8) I8;have hl:=hv.length;refine gf F.slot_list_append ⟨_,a4,rfl⟩ F.entry_list_append (F.args_list_append_2 _ _) (PySem.list_append D ax.toArray nn y (by rw[cC];lia)) ⟨a4,?_⟩
    have I9:Inv (cu X N scope C s2 H2 fp) [] WR H8 s8:=I8.lO (λp hp=>by cases hp)
    have qq:=PySem.IsL.update a4 λz=>z.push y
    have hp:ax.toArray.push y=(ax++[y]).toArray:=by simp
    rw[hp]at qq;refine⟨m',Kk,i+1,_,WR,H8,ax++[y],_,I9.turned (λb o fj e=>(jg _ _ (bU fj)).trans e) a3 WQ (.inr (jo eD)) Ug (λp hp=>by simp[cu]at hp),T.keep _ _ _ a1 λb jS o e=>(jg _ _ (bU (fpD b jS))).trans e,a2,a3,qq,hv.append (.cons r8 .nil),w8⟩
 exact codeAny_compStart_list (loop _ rfl) (T.self _ 0 _ _ _ (T.keep _ _ _ dG λb jS o e=>old b o e) (loop _ rfl))
def BH(hc:X.calm=true)(S:il X N link scope)(hi:PI X tg iter wi)
  (hb:∀(C:Addr) (s:Shared) (H:Hp) (fp:List Addr),PB (cu X N scope C s H fp) tg ifs elt tb) (hs:∀x,foldedSetIterable iter X.env x=pure x:=by intro _;rfl) :
  PE X (.ListComp elt [⟨tg,iter,ifs,0⟩] scope pos) (tx link wi tb):=by
 intro ah s σ H Q I h;rw[eval_ListComp];refine tD hc S hi hb hs I h λs5 D C H5 m I5 q hn L=>⟨m,hn,λh' sb=>?_⟩
 exact⟨.ref D,H5,I5.turned (λb o fj e=>(sb.2 b fj).trans e) L.free L.loc (.inr L.above) L.cell L.pin,rfl,q⟩
def BI(hc:X.calm=true)(hN:X.N.Nodup)(hx:X.N[i]?=some x)(hl:X.env.scope.names.lookup x=some .local)(S:il X N link scope)(hi:PI X tg iter wi)
  (hb:∀(C:Addr) (s:Shared) (H:Hp) (fp:List Addr),PB (cu X N scope C s H fp) tg ifs elt tb) (hw:swapsWith (.ListComp elt [⟨tg,iter,ifs,0⟩] scope pos) (some (.Name x oh)) Dv.line X.env=pure true) (hs:∀x,foldedSetIterable iter X.env x=pure x:=by intro _;rfl) :
  PS X (.Assign [.Name x oh] (.ListComp elt [⟨tg,iter,ifs,0⟩] scope pos) Dv) (Jq (tx link wi tb) (gName i)):=by
 intro ah s σ H D I h;rw[exec_Assign_Name_used _ _ _ _ hw];refine ai (uQ (ai ?_));refine ai (thn (tD hc S hi hb hs I h λs5 a C H5 m I5 q hn L=>?_) λ_ s' q=>ar (ar q))
 refine wpAny_assign_Name (store_ok2 (v:=.ref a) I5 hN hx (.inl hl) rfl (λs6 I6 k=>?_) (.inr hl))
 refine⟨m,?_,λh' sb=>?_⟩
 ·obtain⟨o,es,ep,ho,r⟩:=hn;obtain⟨b,sb1,hor⟩:=k;have ne:C≠b:=λz=>by
   rcases hor with w | w
   ·exact L.loc (z.trans w)
   ·exact L.cell x b w z.symm
  exact⟨o,es,ep,(sb1.2 C ne).trans ho,r⟩
 ·exact⟨_,H5,I6.turned (λb o fj e=>(sb.2 b fj).trans e) L.free L.loc (.inr L.above) L.cell L.pin,q⟩
noncomputable def dt(link:List (Option Nat))(ρ:List (Option PV)):List (Option PV):=link.map λo=>o.bind λj=>(ρ[j]?).join
def KG(L:List Nat)(g:Tg):Prop:=∀p st st1,g p st=some st1->st1.ρ.length=st.ρ.length/\∀j:Nat,j∉L->st1.ρ[j]?=st.ρ[j]?
def Ui(L:List Nat)(g:RP):Prop:=∀p st st1,g p st=some st1->st1.ρ.length=st.ρ.length/\∀j:Nat,j∉L->st1.ρ[j]?=st.ρ[j]?
def Kl(i:Nat):KG [i] (dh i):=λp st st1 h=>by
 obtain⟨_,rfl⟩:=aE h;exact⟨gB,λj hj=>bW (λz=>hj (by simp[z]))⟩
def Km:Ui [] Dj:=λp st st1 h=>by
 cases p with
 | nil=>cases h;exact⟨rfl,λ_ _=>rfl⟩
 | cons _ _=>cases h
def Gb(h1:KG L g)(h2:Ui M r):Ui (L++M) (qD g r):=λp st st1 h=>by
 cases p with
 | nil=>cases h
 | cons p ps =>
  obtain⟨dG,e1,e2⟩:=aO h;obtain⟨l1,k1⟩:=h1 p st dG e1;obtain⟨l2,k2⟩:=h2 ps dG st1 e2;exact⟨l2.trans l1,λj hj=>(k2 j λz=>hj (fA _ z)).trans (k1 j λz=>hj (mT _ z))⟩
def Pe(h:Ui L r):KG L (Ae n r):=λp st st1 e=>by
 unfold Ae at e;split at e
 ·obtain⟨_,e⟩:=bT e;exact h _ st st1 e
 ·obtain⟨_,e⟩:=bT e;exact h _ st st1 e
 ·cases e
section
variable {K:W.Frag} {F:Fz} {ρ:List (Option PV)} {σ:St}
def Lc.iW(L:Lc K F ρ σ)(link:List (Option Nat)):Lc K F (dt link ρ) (iW link σ) where
 av:=λi p e=>by
  unfold dt at e;rw[cQ]at e;cases z:link[i]? with
  | none=>rw[z]at e;cases e
  | some o =>
   rw[z]at e;cases o with
   | none=>cases e
   | some j =>
    have e:(ρ[j]?).join=some p:=aX e;cases w:ρ[j]? with
    | none=>rw[w]at e;cases e
    | some q =>
     rw[w]at e;cases e;obtain⟨v,h1,h2⟩:=L.av j p w;refine⟨v,?_,h2⟩;unfold L2.U.iW;rw[cQ,z];show some ((σ[j]?).join)=_;rw[h1];rfl
 len:=by unfold dt L2.U.iW;rw[aU,aU]
def Lc.back{L:List Nat}(R:Lc K F ME σ)(hl:YF.length=σ.length)(h0:YF=dt link ρ)(hk:∀j:Nat,j∉L->ME[j]?=YF[j]?)(hL:∀i∈L,link[i]?=some none):Lc K F YF σ where
 av:=λi p e=>by
  refine R.av i p ?_;rw[hk i λhi=>?_]
  ·exact e
  ·rw[h0]at e;unfold dt at e;rw[cQ,hL i hi]at e;cases e
 len:=hl
end
noncomputable def YG{α:Type}:Rs α×bY->Option (α×List aj)
 | (.ok a,st)=>some (a,st.h)
 | _=>none
abbrev Bd:=List (Option PV)->PV->List aj->Option (Option PV×List aj)
def ox(g:Tg)(fe:Gx PV):Bd:=λρ p h=>(g p ⟨ρ,h⟩).bind λst1=>(fe st1).bind λr=>(YG r).map λx=>(some x.1,x.2)
def xF(g:Tg)(ft:Gx Bool)(fe:Gx PV):Bd:=λρ p h=>(g p ⟨ρ,h⟩).bind λst1=>(ft st1).bind λr=>match r with
 | (.ok b,dG)=>if b=true then(fe dG).bind λr=>(YG r).map λx=>(some x.1,x.2)else some (none,dG.h)
 | _=>none
noncomputable def fy(bd:PV->List aj->Option (Option PV×List aj)):List PV->List aj->Option (List PV×List aj)
 | [],h=>some ([],h)
 | p::ps,h=>(bd p h).bind λr=>(fy bd ps r.2).map λs=>(r.1.toList++s.1,s.2)
section
variable {X:Cx} {af:Hp} {ag:Fz} {N:List Str} {link:List (Option Nat)} {scope:Scope} {tg iter elt c:Expr} {pos:Pos} {fi:Gx (List PV)} {g:Tg} {fe:Gx PV} {ft:Gx Bool} {L:List Nat} {cl:Bool}
def xG(e:YG r=some (a,h)):∃st,r=(.ok a,st)/\st.h=h:=by
 obtain⟨r,st⟩:=r;cases r with
 | ok x=>cases e;exact⟨st,rfl,rfl⟩
 | ex m C=>cases e
def _root_.L2.U.PB.imp(h:PB Y tg ifs elt tb)(i:∀v σ H Q,tb' v σ H Q->tb v σ H Q):PB Y tg ifs elt tb':=λah s σ H v u Q I r w=>h ah s σ H v u Q I r (i _ _ _ _ w)
def tb1(X:Cx)(af:Hp)(ag:Fz)(g:Tg)(fe:Gx PV):TB:=λv σ H Q=>tG X.K af ag g v σ H λiE H1=>∀Y:Cx,Y.K=X.K->tE Y af ag fe iE H1 λy H2=>Q (some y) iE H2
def tb2(X:Cx)(af:Hp)(ag:Fz)(g:Tg)(ft:Gx Bool)(fe:Gx PV):TB:=λv σ H Q=>tG X.K af ag g v σ H λiE H1=>∀Y:Cx,Y.K=X.K->tT Y af ag ft iE H1 λt H2=>if t=true then tE Y af ag fe iE H2 λy H3=>Q (some y) iE H3 else Q none iE H2
section
variable (ht:∀(C:Addr) (s:Shared) (H:Hp) (fp:List Addr),PG (cu X N scope C s H fp) tg (tG X.K af ag g)) (he:∀(C:Addr) (s:Shared) (H:Hp) (fp:List Addr),PE (cu X N scope C s H fp) elt (tE (cu X N scope C s H fp) af ag fe))
include ht he
def pb1(C:Addr)(s:Shared)(H:Hp)(fp:List Addr):PB (cu X N scope C s H fp) tg [] elt (tb1 X af ag g fe) :=
 (F8 (ht C s H fp) (he C s H fp)).imp (by rintro v σ H Q ⟨F,st,p,st',R,b,e,q⟩;exact⟨F,st,p,st',R,b,e,λbG H' F' R' g'=>q bG H' F' R' g' _ rfl⟩)
def pb2(hw:∀(C:Addr) (s:Shared) (H:Hp) (fp:List Addr),PT (cu X N scope C s H fp) c (tT (cu X N scope C s H fp) af ag ft))(C:Addr)(s:Shared)(H:Hp)(fp:List Addr):PB (cu X N scope C s H fp) tg [c] elt (tb2 X af ag g ft fe) :=
 (Kj (ht C s H fp) (hw C s H fp) (he C s H fp)).imp (by rintro v σ H Q ⟨F,st,p,st',R,b,e,q⟩;exact⟨F,st,p,st',R,b,e,λbG H' F' R' g'=>q bG H' F' R' g' _ rfl⟩)
end
def oY(h:tS X af ag (l4 fe (dh i)) D σ H):tE X af ag fe σ H λv H1=>D.nx (σ.set i (some v)) H1:=by
 obtain⟨F,st,R,h⟩:=h;refine⟨F,st,R,h.bnd λp v F1 st1 H1 R1 g1 b1 h1=>?_⟩
 obtain⟨st',e,z⟩:=h1.stp;obtain⟨hi,rfl⟩:=aE e;exact z F1 _ H1 ⟨R1.c,R1.l.set hi b1⟩ (Gr.refl _)
end
def SI(h:Heap)(it l:Addr)(k:Nat)(xs:Array Value):Prop:=(h.IsListIter it l k/\h.IsList l xs)\/(h.IsTupleIter it l k/\h.IsTuple l xs)
def SI.at{h h':Heap}{it l:Addr}{k:Nat}{xs:Array Value}(x:SI h it l k xs)(h1:∀o,h.get? it=some o->h'.get? it=some o)(h2:∀o,h.get? l=some o->h'.get? l=some o):SI h' it l k xs:=by
 rcases x with⟨⟨o,e,r⟩,⟨o',e',r'⟩⟩ | ⟨⟨o,e,r⟩,⟨o',e',r'⟩⟩
 ·exact .inl ⟨⟨o,h1 o e,r⟩,⟨o',h2 o' e',r'⟩⟩
 ·exact .inr ⟨⟨o,h1 o e,r⟩,⟨o',h2 o' e',r'⟩⟩
def SI.MF{h:Heap}{it l:Addr}{k:Nat}{xs:Array Value}(x:SI h it l k xs):∃o,h.get? it=some o/\∃vs,o.data=.fields vs:=by
 rcases x with⟨⟨o,e,_,d⟩,_⟩ | ⟨⟨o,e,_,d⟩,_⟩
 ·grind
 ·grind
def SI.sq{h:Heap}{it l:Addr}{k:Nat}{xs:Array Value}(x:SI h it l k xs):∃o n,h.get? l=some o/\o.data=.seq xs n:=by
 rcases x with⟨_,⟨o,e,_,n,d⟩⟩ | ⟨_,⟨o,e,_,n,d⟩⟩
 ·grind
 ·grind
def SI.ne{h:Heap}{it l:Addr}{k:Nat}{xs:Array Value}(x:SI h it l k xs):l≠it:=λz=>by
 obtain⟨o,e,vs,d⟩:=x.MF;obtain⟨o',n,e',d'⟩:=x.sq;subst z;rw[e]at e';cases e';rw[d]at d';cases d'
section
variable {prog:Program} {w:World} {A:Around} {E:Value->Shared->Prop} {s:Shared}
def Am{it t:Addr}{i:Nat}{ax:Array Value}{x:Value}{Q:Value->Shared->Prop}(Pf:s.heap.IsTupleIter it t i)(ht:s.heap.IsTuple t ax)(hx:ax[i]?=some x)
  (hQ:∀h',h'.IsTupleIter it t (i+1)->Heap.SameBut it s.heap h'->Q x {s with heap:=h'}):wpAny (model prog w) A (Builtin.SmallTypes.nextOf (.ref it)) Q E s:=by
 obtain⟨o,ho,hc,hd⟩:=id Pf;obtain⟨ol,YH,_,nl,Ph⟩:=ht;refine ai (fZ Pf.typeIs uu (fE uu Pf.typeIs Ex (by
  show wpAny _ _ (field (.ref it) 0 >>= _) _ _ s;refine ai (cH ho hd rfl ?_);show wpAny _ _ (if(Value.ref t==Value.none)=true then _ else _) _ _ s
  rw[if_neg (show ¬((Value.ref t==Value.none)=true)from cf)]
  show wpAny _ _ (field (.ref it) 1 >>= _) _ _ s;refine ai (cH ho hd (x:=.int i 0) rfl ?_);show wpAny _ _ (seqItems? (.ref t) >>= _) _ _ s;refine ai (fG YH Ph ?_);simp only[kL,hx];refine ai (wpAny_setField ho hd (by simp) (ar ⟨x,rfl,ar (hQ _ ⟨_,mS _ ho (Obj.isFreed_of_fields (Obj.data_mapFields hd _)),(Obj.cls_mapFields ..).trans hc,by rw[Obj.data_mapFields hd];simp[rawInt]⟩ (Heap.SameBut.update ..))⟩))) (Ew _)))
def An{it t:Addr}{i:Nat}{ax:Array Value}{Q:Value->Shared->Prop}(hh:A.handled=none)(Pf:s.heap.IsTupleIter it t i)(ht:s.heap.IsTuple t ax)(hx:ax[i]?=none)
  (hE:∀h' e,Heap.ExtBut it s.heap h'->(∃o,h'.get? e=some o/\o.cls=.type "StopIteration")->E (.ref e) {s with heap:=h'}):wpAny (model prog w) A (Builtin.SmallTypes.nextOf (.ref it)) Q E s:=by
 obtain⟨o,ho,hc,hd⟩:=id Pf;obtain⟨ol,YH,_,nl,Ph⟩:=ht;refine ai (fZ Pf.typeIs uu (fE uu Pf.typeIs Ex (by
  show wpAny _ _ (field (.ref it) 0 >>= _) _ _ s;refine ai (cH ho hd rfl ?_);refine ai (cH ho hd (x:=.int i 0) rfl ?_);show wpAny _ _ (seqItems? (.ref t) >>= _) _ _ s;refine ai (fG YH Ph ?_);simp only[kL,hx];refine ai (iB (ai (wpAny_setField ho hd (by simp) ?_)))
  show wpAny _ _ (newExc (.type "StopIteration") [] >>= _) _ _ _;refine ai ?_;simp only[newExc,newTuple];refine ai (kJ ?_ (by size_fits))
  refine ai (m:=firstArgMember _ _) (wpAny_of_eq (a:=Value.none) (by first | rfl | (simp only[firstArgMember];rfl)) ?_)
  refine kJ ?_ (by size_fits)
  simp only[raiseNew];refine ai (wpAny_handled ?_)
  first | rw[show A.in1.handled=none from hh] | rw[hh]
  exact ai (ar (wpAny_throw (hE _ _ (((Heap.SameBut.update ..).extBut.push _).push _) ⟨_,bL _ rfl,rfl⟩)))) (Ew _)))
def SI.next{it l:Addr}{k:Nat}{xs:Array Value}{x:Value}{Q:Value->Shared->Prop}(hi:SI s.heap it l k xs)(hx:xs[k]?=some x)(hQ:∀h',SI h' it l (k+1) xs->Heap.SameBut it s.heap h'->Q x {s with heap:=h'}) :
  wpAny (model prog w) A (Builtin.SmallTypes.nextOf (.ref it)) Q E s:=by
 have ne:=hi.ne;rcases hi with⟨h1,h2⟩ | ⟨h1,h2⟩
 ·exact wpAny_nextOf_list_item h1 h2 hx λh' a b=>hQ h' (.inl ⟨a,h2.extBut b.extBut ne⟩) b
 ·exact Am h1 h2 hx λh' a b=>hQ h' (.inr ⟨a,h2.extBut b.extBut ne⟩) b
def SI.stop{it l:Addr}{k:Nat}{xs:Array Value}{Q:Value->Shared->Prop}(hh:A.handled=none)(hi:SI s.heap it l k xs)(hx:xs[k]?=none)
  (hE:∀h' e,Heap.ExtBut it s.heap h'->(∃o,h'.get? e=some o/\o.cls=.type "StopIteration")->E (.ref e) {s with heap:=h'}):wpAny (model prog w) A (Builtin.SmallTypes.nextOf (.ref it)) Q E s:=by
 rcases hi with⟨h1,h2⟩ | ⟨h1,h2⟩
 ·exact wpAny_nextOf_list_end hh h1 h2 hx hE
 ·exact An hh h1 h2 hx hE
end
def nl{a b:Nat}(h:a<b):@Ne Addr a b:=bC h
section
variable {prog:Program} {w:World} {A:Around} {E:Value->Shared->Prop} {s:Shared} {z TI TO i1 i2 l1 l2:Nat} {k:Nat} {xs ys:Array Value}
def ip(h:Heap)(l:Addr)(xs:Array Value)(c:String):Prop:=(c="list_iterator"/\h.IsList l xs)\/(c="tuple_iterator"/\h.IsTuple l xs)
def jV{l:Addr}{xs:Array Value}{c:String}{Q:Value->Shared->Prop}(h:ip s.heap l xs c)(hQ:Q (.ref s.heap.objs.size) {s with heap:=s.heap.push {cls:=.type c,data:=.fields #[.ref l,.int 0 0]}}):wpAny (model prog w) A (pyIter (.ref l)) Q E s:=by
 rcases h with⟨rfl,h⟩ | ⟨rfl,h⟩
 ·exact zi h hQ
 ·exact wpAny_pyIter_tuple h hQ
end
def rW(K:W.Frag)(H:Hp)(c:Bool)(l:Addr)(vs:List V):Prop:=if c=true then u6 K H l vs else iC K H l vs
def Ep(h:Heap)(c:Bool)(it l:Addr)(k:Nat):Prop:=if c=true then h.IsListIter it l k else h.IsTupleIter it l k
noncomputable def j5(c:Bool):String:=if c=true then "list_iterator" else "tuple_iterator"
section
variable {X:Cx} {ah:List (Addr×Obj)} {σ:St} {H:Hp} {s:Shared}
def rW.get(I:Inv X ah σ H s){c:Bool}{l:Addr}{vs:List V}(h:rW X.K H c l vs):∃ax:List Value,Vals vs ax/\ip s.heap l ax.toArray (j5 c):=by
 unfold j5;cases c with
 | true =>
  obtain⟨ax,r,pl,_⟩:=I.list (h);exact⟨ax,r,.inl ⟨rfl,pl.isList⟩⟩
 | false =>
  obtain⟨ax,r,pl,_⟩:=I.tuple (h);exact⟨ax,r,.inr ⟨rfl,pl⟩⟩
def rW.inj(I:Inv X ah σ H s){c:Bool}{l:Addr}{vs ws:List V}(h:rW X.K H c l vs)(h':rW X.K H c l ws):vs=ws:=by
 cases c with
 | true=>exact I.lP h h'
 | false=>exact I.jR h h'
def tF{h:Heap}{c:Bool}{it l:Addr}{k:Nat}{xs:Array Value}(h1:Ep h c it l k)(h2:ip h l xs (j5 c)):SI h it l k xs:=by
 cases c with
 | true =>
  rcases h2 with⟨_,q⟩ | ⟨q,_⟩
  ·exact .inl ⟨h1,q⟩
  ·exact absurd q (by decide)
 | false =>
  rcases h2 with⟨q,_⟩ | ⟨_,q⟩
  ·exact absurd q (by decide)
  ·exact .inr ⟨h1,q⟩
def vB{h:Heap}{c:Bool}{it l:Addr}{k k':Nat}{xs:Array Value}{h0:Heap}(h1:SI h it l k xs)(h2:ip h0 l xs (j5 c))(kp:∀o,h0.get? l=some o->h.get? l=some o):Ep h c it l k:=by
 cases c with
 | true =>
  rcases h2 with⟨_,⟨o,e,hc,_⟩⟩ | ⟨q,_⟩
  ·rcases h1 with⟨a,_⟩ | ⟨_,⟨o',e',Em,_⟩⟩
   ·exact a
   ·grind
  ·exact absurd q (by decide)
 | false =>
  rcases h2 with⟨q,_⟩ | ⟨_,⟨o,e,hc,_⟩⟩
  ·exact absurd q (by decide)
  ·rcases h1 with⟨_,⟨o',e',Em,_⟩⟩ | ⟨a,_⟩
   ·grind
   ·exact a
def Inv.turns{t':Nat}{h':Heap}{ch:List Addr}(I:Inv X ah σ H s)(hf:∀b∈ch,qg X ah H b)(kp:∀b o,b∉ch->s.heap.get? b=some o->h'.get? b=some o):Inv X ah σ H {s with heap:=h',toks:=t'}:=by
 have Sx:∀b u,H b=some u->b∉ch:=λb u e z=>by rw[(hf b z).1]at e;cases e
 refine I.step (λb hb=>⟨(hf b hb).2.2.2.1,(hf b hb).2.1,(hf b hb).2.2.2.2.1,(hf b hb).2.2.2.2.2⟩) (λb o _ _ hc e _=>kp b o hc e) (λb o _ _ hc e _=>⟨o.slots,kp b o hc e⟩) (λ_ _ _ _ n=>n)
  (λb o hc e=>⟨o,kp b o hc e⟩) (λ_ _ e=>e) (λ_ _ _ e=>e) (λ_ _ e=>e) (λm hm=>?_) (λb u e=>?_) I.bare
 ·obtain⟨o,es,ep,ho,r⟩:=hm;exact⟨o,es,ep,kp _ o (λz=>(hf _ z).2.1 rfl) ho,r⟩
 ·refine(I.hok b u e).w5 (λc v hc q=>kp c v ?_ q) (λ_ q=>q) (λ_ _ q=>q) λ_ _ _ q=>q
  rcases hc with z | z
  ·rw[z];exact Sx b u e
  ·exact Sx c _ z
end
def Ep.at{h h':Heap}{c:Bool}{it l:Addr}{k:Nat}(x:Ep h c it l k)(h1:∀o,h.get? it=some o->h'.get? it=some o):Ep h' c it l k:=by
 cases c with
 | true =>
  obtain⟨o,e,r⟩:=(x);exact(⟨o,h1 o e,r⟩)
 | false =>
  obtain⟨o,e,r⟩:=(x);exact(⟨o,h1 o e,r⟩)
def Ep.obj{h:Heap}{c:Bool}{it l:Addr}{k:Nat}(x:Ep h c it l k):∃o,h.get? it=some o/\∀v,o.data≠.cell v:=by
 unfold Ep at x;split at x
 ·obtain⟨o,e,_,d⟩:=x;exact⟨o,e,λv=>by grind⟩
 ·obtain⟨o,e,_,d⟩:=x;exact⟨o,e,λv=>by grind⟩
def Gd{prog:Program}{w:World}{A:Around}{it l:Addr}{xs:Array Value}(hh:A.handled=none):Draws prog w A it [it,l] xs.size (λi x=>xs[i]?=some x) (λi h=>SI h it l i xs) where
 live:=λi h st=>by
  obtain⟨o,e,_⟩:=st.MF;exact⟨o,e⟩
 frame:=λi h h' st k=>st.at (λo e=>k it (by simp) o e) (λo e=>k l (by simp) o e)
 item:=λi s Q E hi st hQ=>SI.next st (pf hi) λh' a b=>hQ _ h' s.toks (pf hi) a b
 done:=λs Q E st hE=>SI.stop hh st (kD (aF _)) hE
set_option maxHeartbeats 2000000 in
theorem Ge(l:Addr)(xs:Array Value)(c:String)(part:Obj) :
  Meets (Builtin.«enumerate.__new__» ⟨[.type "enumerate",.ref l],[]⟩) (λ_ R s=>ip s.heap l xs c/\s.heap.get? l=some part /\
   ∀h1 h2:Heap,h1=s.heap.push {cls:=.type c,data:=.fields #[.ref l,.int 0 0]}->h2=h1.push {cls:=.type "enumerate",data:=.fields #[.none,.bool false,.ref s.heap.objs.size,rawInt 0,.none,.none]}->R (.ok (.ret (.ref h1.objs.size))) {s with heap:=h2}) :=
 .of_wp λprog w A R s h=>by
  obtain⟨hp,g,d,tk,os⟩:=s;obtain⟨hl,hpt,h⟩:=h;have hL:ip (Shared.heap ⟨hp,g,d,tk,os⟩) l xs c:=hl;have Kn:=sub_enumerate;rcases hl with⟨rfl,⟨o,e,hc,n,hd⟩⟩ | ⟨rfl,⟨o,e,hc,n,hd⟩⟩
  ·obtain⟨oc,od,YI,S2⟩:=o;replace hc:oc=.type "list":=hc;replace hd:YI=.seq xs n:=hd
   wp_walk using jf e
   refine wpAny_stack_any λst=>ar ?_
   split
   ·rename_i c' _ _ _ _ _;cases(c'==Value.type "enumerate")<;>(wp_walk using jf e,jV hL)<;>exact⟨_,rfl,h _ _ rfl rfl⟩
   ·wp_walk using jf e,jV hL
    exact⟨_,rfl,h _ _ rfl rfl⟩
  ·obtain⟨oc,od,YI,S2⟩:=o;replace hc:oc=.type "tuple":=hc;replace hd:YI=.seq xs n:=hd
   wp_walk using jf e
   refine wpAny_stack_any λst=>ar ?_
   split
   ·rename_i c' _ _ _ _ _;cases(c'==Value.type "enumerate")<;>(wp_walk using jf e,jV hL)<;>exact⟨_,rfl,h _ _ rfl rfl⟩
   ·wp_walk using jf e,jV hL
    exact⟨_,rfl,h _ _ rfl rfl⟩
def Ko{prog:Program}{w:World}{A:Around}{E:Value->Shared->Prop}{s:Shared}{e it l:Addr}{k:Nat}{i:Int}{xs:Array Value}{old:Value}{Q:Option Value->Shared->Prop}(hh:A.handled=none)(a1:IsEnum s.heap e it i old)(st:SI s.heap it l k xs)(hx:xs[k]?=none)(hQ:∀h',Heap.ExtBut it s.heap h'->Q none {s with heap:=h'}):wpAny (model prog w) A (pyNext (.ref e)) Q E s:=by
 have ty:s.TypeIs (.ref e) "enumerate":=⟨_,a1,rfl⟩;unfold pyNext;refine ai (kT (fZ ty F.slot_enumerate_next (fE F.slot_enumerate_next ty F.entry_enumerate_next (by
  show wpAny _ _ (field (.ref e) 2 >>= _) _ _ _;refine ai (cH a1 rfl rfl (ai (SI.stop hh st hx λh' y sb ⟨o,ho,hc⟩=>?_)))
  exact ai (kM ⟨o,ho,hc⟩ uN (ar (hQ _ sb)))) (F.args_enumerate_next_1 _))))
def Ien(K:W.Frag)(c:Bool)(l:Addr):It where
 go:=λi H=>∃vs v,rW K H c l vs/\vs[i]?=some v
 yld:=λi H x H'=>∃T v,H T=none/\x=.ref T/\H'=cU H T (.au [.int i,v])/\∀vs,rW K H c l vs->vs[i]?=some v
 stop:=λi H=>∃vs,rW K H c l vs/\vs.length<=i
def eTn(e it l:Nat)(c:Bool)(i:Nat)(h:Heap):Prop:=(∃old,IsEnum h e it i old)/\Ep h c it l i
def Kp{P:Program}{w:World}{K:W.Frag}{elts:List Expr}{x1:Nat}{qo:Pos}{e it l:Nat}{c:Bool}(ord:it<e)(o1:l<it) :
  Turn P w K (.Tuple elts x1 qo) (Ien K c l) [e,it] e (eTn e it l c) where
 mem:=dw
 obj:=by
  rintro i h ⟨⟨_,a1⟩,a2⟩ b hb
  simp only[aC,bB,bD]at hb;rcases hb with rfl | rfl
  ·exact⟨_,a1,λv=>by simp⟩
  ·exact a2.obj
 keep:=(by rintro i h h' ⟨⟨old,a1⟩,a2⟩ k;exact⟨⟨old,k e (by simp) _ a1⟩,a2.at λo x=>k it (by simp) o x⟩)
 item:=by
  rintro X hP hw hK hc i ah s σ H E I hf ⟨⟨old,a1⟩,a2⟩ ⟨vs,v,hv,ev⟩
  subst hP hw hK;obtain⟨ax,r1,k1⟩:=hv.get I;obtain⟨x,ex,rx⟩:=r1.get ev;have ne:e≠it:=pS ord;have nel:e≠l:=pS (jm o1 ord);have Ph:X.A.in1.handled=none:=I.ok.hd hc;refine wpAny_pyNext_enum_itemD (Gd (xs:=ax.toArray) (l:=l) Ph) a1 (tF a2 k1) (by
   have:=(dS.mp ex).1;simpa using this) ne (by simp[ne,nel]) λx' h' tk Aj hO st hT Ud kp=>⟨_,rfl,?_⟩
  have xe:x'=x:=by
   have e1:ax.toArray[i]?=some x:=by simpa using ex
   rw[e1]at Aj;cases Aj;rfl
  subst xe;refine wpAny_letOwnedTupleGo_enum hO λIE YJ sb=>?_
  have Uj:∀b∈[e,it],b<s.heap.objs.size:=λb hb=>by
   simp only[aC,bB,bD]at hb;have h1:e<s.heap.objs.size:=aH a1;rcases hb with rfl | rfl<;>lia
  have eT:e≠s.heap.objs.size:=bC (Uj e (by simp))
  have Uk:∀b o,b∉[e,it]->s.heap.get? b=some o->IE.get? b=some o:=λb o hb z=>by
   simp only[aC,bB,bD,not_or]at hb;exact sb.extBut _ _ hb.1 (kp b o hb.1 hb.2 z)
  have I1:Inv X ah σ H {s with heap:=IE,toks:=tk+1}:=Inv.turns I hf Uk
  have hn:H s.heap.objs.size=none:=I.fresh;have Kq:=I.u7 (H':=H) (aF _) hn;have pr:IE.get? s.heap.objs.size=some {cls:=.type "tuple",data:=.seq #[.int i tk,x']}:=sb.extBut _ _ (bU eT) hT
  have I2:=Inv.adopt (D:=s.heap.objs.size) (o:=.au [.int i,v]) I1 hn (by
    rcases Kq.2.2.2.1 with q | q
    ·exact I.sz
    ·exact q) Kq.2.1 Kq.2.2.2.2.1 Kq.2.2.2.2.2 ⟨(by show 2<=sizeLine;decide),[.int i tk,x'],.cons ⟨tk,rfl⟩ (.cons rx .nil),⟨_,pr,rfl,⟨0,rfl⟩,rfl⟩⟩
  refine⟨.ref s.heap.objs.size,_,I2,rfl,⟨s.heap.objs.size,v,hn,rfl,rfl,λwM h1=>?_⟩,⟨⟨_,YJ⟩,?_⟩,λb hb=>?_⟩
  ·rw[<-rW.inj I hv h1];exact ev
  ·have nli:l≠it:=bC o1;have q:=vB (k':=i) st k1 λo z=>kp l o (bU nel) nli z
   exact q.at λo z=>sb.extBut _ _ (bU ne) z
  ·rw[aN (bC (Uj b hb))];exact(hf b hb).1
 done:=by
  rintro X hP hw hK hc i ah s σ H E I hf ⟨⟨old,a1⟩,a2⟩ ⟨vs,hv,he⟩
  subst hP hw hK;obtain⟨ax,r1,k1⟩:=hv.get I;have hz:ax.toArray[i]?=none:=kD (by rw[cC,<-r1.length];exact he)
  refine Ko (I.ok.hd hc) a1 (tF a2 k1) hz λh' sb=>⟨rfl,?_⟩
  exact Inv.turns (t':=s.toks) I hf λb o hb z=>by
   simp only[aC,bB,bD,not_or]at hb;exact sb b o hb.2 z
 self:=(by rintro A i s Q E ⟨⟨_,a1⟩,_⟩ q;exact wpAny_pyIter_enum a1 q)
noncomputable def BJ:Expr->Bool
 | .Tuple _ _ _=>true
 | _=>false
noncomputable def oy:PV->Option (List PV)
 | .nd .au ps=>some ps
 | .nd .lst ps=>some ps
 | _=>none
def fV(p q:PV):PV:=.au [p,q]
def jC{K:W.Frag}(h:oy p=some ps)(b:bj K F p x):∃c l vs,x=.ref l/\rW K F.F c l vs/\ay K F ps vs/\∀F',cw F.F F'->rW K F' c l vs:=by
 unfold oy at h;split at h
 ·cases h;obtain⟨l,vs,rfl,h1,h2⟩:=bR.mp b;exact⟨false,l,vs,rfl,h1,h2,λF' s=>cZ s h1⟩
 ·cases h;obtain⟨l,vs,rfl,h1,h2⟩:=dA.mp b;exact⟨true,l,vs,rfl,h1.sq,h2,λF' s=>(jx s h1).sq⟩
 ·cases h
def Dw{K:W.Frag}(hs:u6 K F.F a vs)(hb:ay K F ps vs):Walk K F ps (Wz K a):=by
 intro af ag F' st σ H R s i;have hq:=(s.s.trans R.sub).seq hs;refine⟨λp e=>?_,λe=>?_⟩
 ·obtain⟨v,e1,b1⟩:=hb.get e;refine⟨⟨vs,v,hq,e1⟩,λx H' ⟨hH,y⟩=>?_⟩
  subst hH;have:=y vs hq;rw[e1]at this;cases this;exact⟨F',R,Gr.refl _,b1.mono s⟩
 ·refine⟨vs,hq,?_⟩;rw[<-hb.length];exact hJ.mp e
def Gf{K:W.Frag}(hs:iC K F.F a vs)(hb:ay K F ps vs):Walk K F ps (XT K a):=by
 intro af ag F' st σ H R s i;have hq:=cZ (s.s.trans R.sub) hs;refine⟨λp e=>?_,λe=>?_⟩
 ·obtain⟨v,e1,b1⟩:=hb.get e;refine⟨⟨vs,v,hq,e1⟩,λx H' ⟨hH,y⟩=>?_⟩
  subst hH;have:=y vs hq;rw[e1]at this;cases this;exact⟨F',R,Gr.refl _,b1.mono s⟩
 ·refine⟨vs,hq,?_⟩;rw[<-hb.length];exact hJ.mp e
noncomputable def Gg(lo:Int)(n:Nat):List PV:=(List.range n).map fun(i:Nat)=>.int (lo+i)
def Ao{K:W.Frag}(lo:Int)(n:Nat):Walk K F (Gg lo n) (WA lo n):=by
 intro af ag F' st σ H R s i;unfold Gg;refine⟨λp e=>?_,λe=>?_⟩
 ·rw[cQ]at e;by_cases hi:i<n
  ·rw[zf hi]at e;cases e;exact⟨hi,λx H' ⟨hH,y⟩=>by subst hH y;exact⟨F',R,Gr.refl _,aG.mpr rfl⟩⟩
  ·rw[uy (by simpa using hi)]at e;cases e
 ·rw[cQ]at e;by_cases hi:i<n
  ·rw[zf hi]at e;cases e
  ·exact zw hi
def kq:Nat->List PV->List PV
 | _,[]=>[]
 | k,p::r=>fV (.int k) p::kq (k+1) r
theorem nG:∀(ps:List PV) (k i:Nat),(kq k ps)[i]?=ps[i]?.map λp=>fV (.int ((k+i:Nat):Int)) p
 | [],k,i=>by simp[kq]
 | p::r,k,0=>by simp[kq]
 | p::r,k,i+1=>by
  simp only[kq,List.getElem?_cons_succ];rw[nG r (k+1) i,show k+1+i=k+(i+1) by lia]
def Kr{K:W.Frag}(k1:∀F',cw F.F F'->rW K F' c l vs)(b1:ay K F ps vs):Walk K F (kq 0 ps) (Ien K c l):=by
 intro af ag F' st σ H R s i;have h1:=k1 H (s.s.trans R.sub);refine⟨λp e=>?_,λe=>?_⟩
 ·rw[nG]at e;cases z1:ps[i]? with
  | none=>rw[z1]at e;cases e
  | some p1 =>
   rw[z1]at e;cases e;obtain⟨v,e1,YK⟩:=b1.get z1;refine⟨⟨vs,v,h1,e1⟩,λx H' z9=>?_⟩
   obtain⟨T,v',hn,hx,hH,hall⟩:=z9;have g1:=hall vs h1;rw[e1]at g1;cases g1;subst hx hH;obtain⟨R2,s2⟩:=R.laid (.au [.int i,v]) hn;refine⟨_,R2,s2,bR.mpr ⟨T,[.int i,v],rfl,iC.of aA,.cons ?_ (.cons (YK.mono (s.trans s2)) .nil)⟩⟩;rw[uS];exact aG.mpr rfl
 ·refine⟨vs,h1,?_⟩;rw[nG]at e;cases z1:ps[i]? with
  | none =>
   have:=hJ.mp z1;rw[b1.length]at this;exact this
  | some p1=>rw[z1]at e;cases e
section
variable {X:Cx} {af:Hp} {ag:Fz} {a b e tg:Expr} {fa fb:Gx PV} {ts:Gx (List PV)} {pos p:Pos}
noncomputable def Pj(i j:Int):Bool:=decide (-(2^62)<=i/\i<2^62 /\ -(2^62)<=j/\j<2^62)
def xH:List PV->Option (List PV)
 | [.int j]=>if Pj 0 j=true then some (Gg 0 j.toNat)else none
 | _=>none
def Pk(g:List PV->Option (List PV))(ts:Gx (List PV)):Gx (List PV):=bnd ts λps=>jT (g ps)
def Gh(hg:Gl X "range")(hm:X.mg "range"=none)(ha:PA X [a] (tA X af ag ts))(hs:starEach [a] X.env=[(false,eval a X.env)]:=by rfl):PI X tg (.Call (.Name "range" p) [a] [] pos) (tI X af ag (Pk xH ts)) :=
 (C5 hg hm ha hs).imp λσ H Rr ⟨F,st,R,h⟩=>⟨F,st,R,h.bnd λps vs F1 st1 H1 R1 g1 b1 h1=>by
  obtain⟨o,e,z⟩:=h1.jT;unfold xH at e;split at e
  ·obtain⟨hr,rfl⟩:=aE e;obtain⟨v,rfl,b⟩:=et b1;obtain⟨_,_,h3,h4⟩:=iy hr;rw[aG.mp b];exact⟨_,rfl,h3,h4,z _ H1 F1 R1 (Gr.refl _) (Ao 0 _)⟩
  ·cases e⟩
def BK(fa:Gx PV):Gx (List PV):=bnd fa λp=>jT ((oy p).map λps=>kq 0 ps)
def YL(ht:BJ tg=true)(hg:Gl X "enumerate")(hm:X.mg "enumerate"=none)(ha:PE X a (tE X af ag fa))(hs:starEach [a] X.env=[(false,eval a X.env)]) :
  PI X tg (.Call (.Name "enumerate" p) [a] [] pos) (tI X af ag (BK fa)):=by
 rintro ah s σ H R I ⟨F,st,Rp,h⟩
 have hA:=gV ha qp hs pos ah s σ H (λvs H'=>∃F' st' x pa ps,vs=[x]/\Rep X.K af ag F' st' σ H'/\bj X.K F' pa x/\oy pa=some ps/\∀b Ul FL,Rep X.K af ag FL st' σ Ul->Gr F' FL->Walk X.K FL (kq 0 ps) b->R b Ul) I
  ⟨F,st,Rp,h.bnd λp v F1 st1 H1 R1 g1 b1 h1=>by
   obtain⟨o,e,z⟩:=h1.jT;obtain⟨ps,e1,rfl⟩:=aP e;exact⟨F1,st1,v,p,ps,rfl,R1,b1,e1,z⟩⟩
 refine Call_ (ld_blt I hg hm boot_enumerate (kx (thn hA λus s1 z9=>?_) hs rfl))
 obtain⟨vs,H1,I1,r1,F1,st1,x,pa,ps,ev,R1,b1,f3,q⟩:=z9;subst ev;obtain⟨u1,rfl,Um⟩:=km r1;obtain⟨c1,l1,vs1,rfl,q1,RR,k1⟩:=jC f3 b1;cases Um;obtain⟨ax,v1,Ks⟩:=(k1 H1 R1.sub).get I1;obtain⟨part,MH⟩:∃o,s1.heap.get? l1=some o:=by
  rcases Ks with⟨_,⟨o,e,_⟩⟩ | ⟨_,⟨o,e,_⟩⟩
  ·grind
  ·grind
 have Uo:=aH MH;refine callType_new PySem.F.called_enumerate (by decide) (PySem.F.typeCall_enumerate_1 _) (PySem.F.newCall_enumerate_1 _) (λobj=>PySem.F.args_object_init_2 obj _) PySem.F.entry_enumerate_new (Ge l1 ax.toArray (j5 c1) part) ⟨Ks,MH,λh1 h2 e1 e2=>?_⟩
 have z1:h1.objs.size=s1.heap.objs.size+1:=by simp_all
 have p1:∀b o,s1.heap.get? b=some o->h1.get? b=some o:=λb o e=>by rw[e1];exact aK _ e
 have p2:∀b o,h1.get? b=some o->h2.get? b=some o:=λb o e=>by rw[e2];exact aK _ e
 have g2:IsEnum h2 h1.objs.size s1.heap.objs.size 0 .none:=by rw[e2];exact bL _ rfl
 have g1:=p2 _ _ (by rw[e1];exact bL _ rfl)
 have I2:Inv X ah σ H1 {s1 with heap:=h2,toks:=s1.toks}:=I1.kept λb o e=>p2 _ _ (p1 _ _ e)
 have lN:∀b,s1.heap.objs.size<=b->H1 b=none:=λb hb=>I1.hok.fresh hb
 refine⟨⟨_,g2,rfl⟩,?_⟩;show wpAny _ _ (pyIter (.ref h1.objs.size)) _ _ {s1 with heap:=h2,toks:=s1.toks}
 refine wpAny_pyIter_enum g2 ?_;cases tg with
 | Tuple elts x1 qo =>
  refine⟨h1.objs.size,[h1.objs.size,s1.heap.objs.size],_,_,H1,rfl,I2,Kp (by lia) Uo,⟨⟨_,g2⟩,(by
   cases c1 with
   | true=>exact(⟨_,g1,rfl,rfl⟩)
   | false=>exact(⟨_,g1,rfl,rfl⟩))⟩,λb hb=>?_,q _ H1 F1 R1 (Gr.refl _) (Kr k1 RR)⟩
  simp only[aC,bB,bD]at hb;have Up:s1.heap.objs.size<=b:=by rcases hb with rfl | rfl<;>lia
  exact I1.u7 Up (lN b Up)
 | _=>cases ht
end
end L2.U
namespace L2
open PySem PySem.Spec PyProof.Rows
noncomputable def YM(z:Str):It:=⟨λi _=>i<z.cps.size,λi H x H'=>H'=H/\∃c,z.cps[i]?=some c/\x=.str ⟨#[c]⟩,λi _=>z.cps.size<=i⟩
def Gi{P:Program}{w:World}{K:W.Frag}{tg:Expr}(z:Str)(t:Tok)(it:Addr):Turn P w K tg (YM z) [it] it (λi h=>h.IsStrIter it "str_ascii_iterator" z t i) where
 mem:=by simp
 obj:=λi h st b hb=>by
  have e:b=it:=by grind
  subst e;obtain⟨o,e,c,d⟩:=st;exact⟨o,e,λv z=>by grind⟩
 keep:=λi h h' st k=>let ⟨o,ho,r⟩:=st;⟨o,k it (by simp) o ho,r⟩
 item:=by
  intro X hP hw hK hc i ah s σ H E I hf st hg;subst hP hw hK;have hx:z.cps[i]?=some z.cps[i]:=pf hg;obtain⟨f0,f1,f2,f3,f4,f5⟩:=hf it (by simp)
  refine wpAny_pyNext_ascii_item st hx λh' st' sb=>?_
  have I1:=I.turned (t':=s.toks+1) (λb o hb e=>(sb.2 b hb).trans e) f0 f1 f3 f4 f5
  obtain⟨o,e,c,d⟩:=id st';exact⟨_,rfl,Bm e c d (by decide) ⟨.str ⟨#[z.cps[i]]⟩,H,I1,⟨_,rfl⟩,⟨rfl,_,hx,rfl⟩,st',λb hb=>(hf b hb).1⟩⟩
 done:=by
  intro X hP hw hK hc i ah s σ H E I hf st hg;subst hP hw hK;obtain⟨f0,f1,f2,f3,f4,f5⟩:=hf it (by simp)
  exact wpAny_pyNext_ascii_end (I.ok.hd hc) st (kD hg) λh' eb=>⟨rfl,I.turned (λb o hb e=>eb b o hb e) f0 f1 f3 f4 f5⟩
 self:=λ_ _ _ _ _ st h=>wpAny_pyIter_striter_ascii st h
def YN(tl:TE):TI:=λσ H R=>tl σ H λx H1=>∃z,x=.str z/\z.cps.all (· < 128)=true/\R (YM z) H1
def Pm{X:Cx}{tg l:Expr}{tl:TE}(hl:PE X l tl):PI X tg l (YN tl):=by
 intro ah s σ H R I h;refine thn (hl ah s σ H _ I h) λv s1 ⟨x,H1,I1,r1,q1⟩=>?_
 obtain⟨z,e,hz,q⟩:=q1;subst e;obtain⟨t,rfl⟩:=r1;refine wpAny_pyIter_ascii hz ?_;refine⟨s1.heap.objs.size,[s1.heap.objs.size],_,_,H1,rfl,I1.kept λb o e=>aK _ e,Gi z t _,⟨_,bL _ rfl,rfl,rfl⟩,λb hb=>?_,q⟩
 have e:b=s1.heap.objs.size:=by grind
 subst e;exact I1.u7 (aF _) (I1.hok.fresh (aF _))
end L2
namespace L2.U
open PySem PySem.Spec PyProof.Rows
noncomputable def Kt(z:Str):List PV:=z.cps.toList.map λc=>.str ⟨#[c]⟩
def Gj{K:W.Frag}{F:Fz}(z:Str):Walk K F (Kt z) (YM z):=by
 intro af ag F' st σ H R s i;refine⟨λp e=>?_,λe=>?_⟩
 ·unfold Kt at e;rw[cQ,y9]at e;obtain⟨c,e1,rfl⟩:=aP e;have hi:i<z.cps.size:=(Array.getElem?_eq_some_iff.mp e1).1;refine⟨hi,λx H' ⟨hH,c',e2,e3⟩=>?_⟩
  subst hH e3;cases aX (e1.symm.trans e2);exact⟨F',R,Gr.refl _,bN.mpr rfl⟩
 ·unfold Kt at e;rw[cQ,y9]at e;show z.cps.size<=i
  grind
inductive BL where
 | sq (ps:List PV) | cl (n:Nat)
def Uq(K:W.Frag)(F:Fz):BL->It->Prop
 | .sq ps,J=>Walk K F ps J
 | .cl n,J=>∃a,F.μ[n]?=some a/\J=Wz K a
abbrev Er(X:Cx)(af:Hp)(ag:Fz)(f:Gx BL):TI:=tX X af ag (Uq X.K) f
def RS(f:Gx (List PV)):Gx BL:=bnd f λps=>cA (.sq ps)
def MI(n:Nat)(h:List aj)(i:Nat):Option (Option PV):=match cS h (.ref n)with
 | some (.lst,ps)=>some ps[i]?
 | _=>none
def Ur(h:List aj)(p:PV):Option BL:=match oy p with
 | some ps=>some (.sq ps)
 | none=>match p with
  | .ref n=>match cS h (.ref n)with
   | some (.lst,_)=>some (.cl n)
   | _=>none
  | .str z=>if z.cps.all (· < 128)=true then some (.sq (Kt z))else none
  | _=>none
def Ap(fe:Gx PV):Gx BL:=bnd fe λp=>hp λh=>Ur h p
def Gk(g:Tg)(body:Gx dB)(n:Nat):Nat->Nat->Gx dB
 | 0,_=>λ_=>none
 | f+1,i=>λst=>match MI n st.h i with
  | some (some p)=>bnd (stp (g p)) (λ_=>bnd body (qF (Gk g body n f (i+1)))) st
  | some none=>some (.ok .nx,st)
  | none=>none
def YO(g:Tg)(body:Gx dB):BL->Gx dB
 | .sq ps=>fS g body ps
 | .cl n=>Gk g body n ic 0
def Ku(fi:Gx BL)(g:Tg)(body:Gx dB):Gx dB:=bnd fi (YO g body)
section
variable {X:Cx} {af:Hp} {ag:Fz} {e tg iter:Expr} {fa:Gx PV} {fb:Gx dB} {body:List Stmt} {pos:Pos}
def Pn(h:PI X tg e (tI X af ag f)):PI X tg e (Er X af ag (RS f)):=(by rintro ah s σ H R I ⟨F,st,Rp,hh⟩;exact h ah s σ H R I ⟨F,st,Rp,hh.bnd λps J F1 st1 H1 R1 g1 b1 h1=>h1.cA J H1 F1 R1 (Gr.refl _) b1⟩)
def Gn{K:W.Frag}{st:bY}(R:Rep K af ag F st σ H)(ha:F.μ[n]?=some a)(e:MI n st.h i=some o):∃ps vs,o=ps[i]?/\u6 K H a vs/\ay K F ps vs:=by
 unfold MI at e;split at e
 ·rename_i ps z;cases e;obtain⟨a',vs,e1,h1,h2⟩:=R.at z (dm.mpr ⟨a,ha,rfl⟩);cases e1;exact⟨ps,vs,rfl,iR.sq h1,h2⟩
 ·cases e
def Gp(he:PE X e (tE X af ag fa)):PI X tg e (Er X af ag (Ap fa)):=by
 rintro ah s σ H R I ⟨F,st,Rp,h⟩
 obtain⟨r,e1,e2⟩:=At.bnd h
 match r,e2 with
 | (.ex m C,st1),e2 =>
  exact Ff he ah s σ H R I ⟨F,st,Rp,_,e1,e2⟩
 | (.ok p,st1),e2 =>
  obtain⟨ps,e3,q⟩:=At.hp e2;unfold Ur at e3;split at e3
  ·rename_i qs e4;cases e3;unfold oy at e4;split at e4
   ·cases e4;refine Ff he ah s σ H R I ⟨F,st,Rp,_,e1,λv H1 F1 R1 s1 b1=>?_⟩
    obtain⟨a,vs,rfl,hs,hb⟩:=bR.mp b1;exact⟨a,rfl,⟨vs,cZ R1.sub hs⟩,q _ H1 F1 R1 s1 (Gf hs hb)⟩
   ·cases e4;refine Bn he ah s σ H R I ⟨F,st,Rp,_,e1,λv H1 F1 R1 s1 b1=>?_⟩
    obtain⟨a,vs,rfl,hs,hb⟩:=dA.mp b1;exact⟨a,rfl,⟨vs,(jx R1.sub hs).sq⟩,q _ H1 F1 R1 s1 (Dw hs.sq hb)⟩
   ·cases e4
  ·split at e3
   ·rename_i n _;split at e3
    ·rename_i qs z;cases e3;refine Bn he ah s σ H R I ⟨F,st,Rp,_,e1,λv H1 F1 R1 s1 b1=>?_⟩
     obtain⟨a,vs,rfl,hs,hb⟩:=R1.at z b1;obtain⟨a',ha,e5⟩:=dm.mp b1;cases e5;exact⟨a,rfl,⟨vs,iR.sq hs⟩,q _ H1 F1 R1 s1 ⟨a,ha,rfl⟩⟩
    ·cases e3
   ·obtain⟨hz,rfl⟩:=aE e3;refine Pm he ah s σ H R I ⟨F,st,Rp,_,e1,λv H1 F1 R1 s1 b1=>?_⟩
    exact⟨_,bN.mp b1,hz,q _ H1 F1 R1 s1 (Gj _)⟩
   ·cases e3
def Po{fi:Gx BL}(hp:PassesOwn (model X.prog X.w) X.A X.env X.xe)(hc:X.calm=true)(hi:PI X tg iter (Er X af ag fi))(hg:PG X tg (tG X.K af ag g))(hb:PSs X body (tS X af ag fb))
  (hs:∀x,foldedSetIterable iter X.env x=pure x:=by intro _;rfl):PS X (.For tg iter body [] pos) (tS X af ag (Ku fi g fb)):=(N8 hp hc hi hg hb hs).imp <| by
 rintro D σ H ⟨F,st,R,h⟩
 refine⟨F,st,R,h.bnd λsr J F1 st1 H1 R1 g1 wk h1=>?_⟩
 cases sr with
 | sq ps =>
  refine⟨λi m bG H'=>m=ps.length-i/\i<=ps.length/\∃F' st',Rep X.K af ag F' st' bG H'/\Gr F1 F'/\Sa X af ag F' D st' (fS g fb (ps.drop i)),⟨ps.length,by simp,iA _,F1,st1,R1,Gr.refl _,h1⟩,?_⟩
  rintro i m bG H' ⟨rfl,hi,F',st',R',s',hr⟩
  obtain⟨wg,YQ⟩:=wk af ag F' st' bG H' R' s' i;by_cases oX:i<ps.length
  ·obtain⟨go,wy⟩:=wg ps[i] (eE oX);rw[yP oX]at hr;refine .inr ⟨go,λBo H2=>∃F2 dG,Rep X.K af ag F2 dG Bo H2/\Gr F1 F2/\Sa X af ag F2 D dG (fS g fb (ps.drop (i+1))),λBo H2 n2=>⟨ps.length-(i+1),by lia,rfl,oX,n2⟩,λx H2 y=>?_⟩
   obtain⟨F2,R2,s2,b2⟩:=wy x H2 y;obtain⟨r,e1,e2⟩:=At.bnd hr;obtain⟨Us,e3,e4⟩:=aP e1;subst e4;refine⟨F2,st',ps[i],Us,R2,b2,e3,λoi H3 F3 R3 s3=>⟨F3,Us,R3,?_⟩⟩
   exact Sa.qf _ (λF4 Eo Mx H4 R4 g4 z=>⟨F4,Eo,R4,(s'.trans (s2.trans s3)).trans g4,z⟩) (Sa.mono (e2) (s2.trans s3))
  ·have e:i=ps.length:=by lia
   subst e;rw[List.drop_length]at hr;exact .inl ⟨YQ (uy (aF _)),At.cA hr F' bG H' R' (Gr.refl _)⟩
 | cl n =>
  obtain⟨a,ha,rfl⟩:=wk;refine⟨λi m bG H'=>∃F' st',Rep X.K af ag F' st' bG H'/\Gr F1 F'/\Sa X af ag F' D st' (Gk g fb n m i),⟨ic,F1,st1,R1,Gr.refl _,h1⟩,?_⟩
  rintro i m bG H' ⟨F',st',R',s',hr⟩
  cases m with
  | zero=>obtain⟨r,e,_⟩:=hr;cases e
  | succ m =>
   obtain⟨r,e1,e2⟩:=hr;have e1:(match MI n st'.h i with
    | some (some p)=>bnd (stp (g p)) (λ_=>bnd fb (qF (Gk g fb n m (i+1)))) st'
    | some none=>some (.ok .nx,st')
    | none=>none)=some r:=e1
   cases z:MI n st'.h i with
   | none=>rw[z]at e1;cases e1
   | some o =>
    obtain⟨ps,vs,ho,hq,qE⟩:=Gn R' (s'.m n a ha) z;cases o with
    | none =>
     rw[z]at e1;cases e1;refine .inl ⟨⟨vs,hq,?_⟩,e2 F' bG H' R' (Gr.refl _)⟩;rw[<-qE.length];exact hJ.mp ho.symm
    | some p =>
     rw[z]at e1;obtain⟨v,hv,bv⟩:=qE.get ho.symm;refine .inr ⟨⟨vs,v,hq,hv⟩,λBo H2=>∃F2 dG,Rep X.K af ag F2 dG Bo H2/\Gr F1 F2/\Sa X af ag F2 D dG (Gk g fb n m (i+1)),λBo H2 n2=>⟨m,pF m,n2⟩,λx H2 ⟨hH,y⟩=>?_⟩
     subst hH;have:=y vs hq;rw[hv]at this;cases this;obtain⟨r',q1,q2⟩:=At.bnd (⟨r,e1,e2⟩);obtain⟨Us,e3,e4⟩:=aP q1;subst e4;refine⟨F',st',p,Us,R',bv,e3,λoi H3 F3 R3 s3=>⟨F3,Us,R3,?_⟩⟩
     exact Sa.qf _ (λF4 Eo Mx H4 R4 g4 z=>⟨F4,Eo,R4,(s'.trans s3).trans g4,z⟩) (Sa.mono (q2) s3)
end
def BM(bd:PV->List aj->Option (Option PV×List aj))(n:Nat):Nat->Nat->List aj->Option (List PV×List aj)
 | 0,_,_=>none
 | f+1,i,h=>match MI n h i with
  | some (some p)=>(bd p h).bind λr=>(BM bd n f (i+1) r.2).map λs=>(r.1.toList++s.1,s.2)
  | some none=>some ([],h)
  | none=>none
def BN(bd:PV->List aj->Option (Option PV×List aj))(h:List aj):BL->Option (List PV×List aj)
 | .sq ps=>if ps.length<=ic then fy bd ps h else none
 | .cl n=>BM bd n ic 0 h
def BO(c:Bool)(ρ:List (Option PV))(r:List PV×List aj):Option (Rs PV×bY):=if c=true then jy ⟨.lst,r.1⟩ ⟨ρ,r.2⟩else some (.ok (.lst r.1),⟨ρ,r.2⟩)
def jD(c:Bool)(link:List (Option Nat))(fi:Gx BL)(bd:Bd):Gx PV:=bnd fi λs st=>(BN (bd (dt link st.ρ)) st.h s).bind (BO c st.ρ)
section
variable {X:Cx} {af:Hp} {ag:Fz} {N:List Str} {link:List (Option Nat)} {scope:Scope} {tg iter elt c:Expr} {pos:Pos} {fi:Gx BL} {g:Tg} {fe:Gx PV} {ft:Gx Bool} {L:List Nat} {cl:Bool}
def xI{st1:bY}{Q:VK}(R':lH X.K af ag F' hf H')(L1:Lc X.K F1 st1.ρ σ)(g':Gr F1 F')(qE:ay X.K F' done acc)(hn:H' D=none)(e4:BO cl st1.ρ (done,hf)=some r)(e2:FG X af ag F1 (λa st'=>∀b H' F',Rep X.K af ag F' st' σ H'->Gr F1 F'->bj X.K F' a b->Q b H') r):Q (.ref D) (cU H' D (.lst acc)):=by
 have Ro:Rep X.K af ag F' ⟨st1.ρ,hf⟩ σ H':=⟨R',L1.mono g'⟩;cases cl with
 | true =>
  have e4:=e4;exact Tx.jy (Tx.mono ⟨r,e4,e2⟩ g' λ_ _ z=>z) Ro hn aA qE
 | false =>
  have e4:=e4;cases e4;obtain⟨R2,s2⟩:=Ro.laid (.lst acc) hn;exact e2 _ _ _ R2 (g'.trans s2) (dA.mpr ⟨D,acc,rfl,iR.of aA,qE.mono s2⟩)
def tH{Q:VK}
  (hb:∀(F2:Fz) (ρ:List (Option PV)) (p:PV) (h h':List aj) (o:Option PV) (x:V) (bG:St) (H2:Hp) (Q':Option V->St->Hp->Prop),bd (dt link ρ) p h=some (o,h')->Rep X.K af ag F2 ⟨dt link ρ,h⟩ bG H2->bj X.K F2 p x ->
   (∀o' oi H3 F3,Rep X.K af ag F3 ⟨dt link ρ,h'⟩ oi H3->Gr F2 F3->ay X.K F3 o.toList (Option.toList o')->Q' o' oi H3)->tb x bG H2 Q')
  (h:tE X af ag (jD cl link fi bd) σ H Q):tx link (Er X af ag fi) tb σ H Q:=by
 obtain⟨F,st,R,h⟩:=h;refine⟨F,st,R,h.bnd λsr J F1 st1 H1 R1 g1 wk h1=>?_⟩
 obtain⟨r,e1,e2⟩:=h1;obtain⟨⟨rs,hf⟩,e3,e4⟩:=aO e1;cases sr with
 | sq ps =>
  obtain⟨eW,e3⟩:=bT e3;refine⟨λi m acc bG H'=>m=ps.length-i/\i<=ps.length/\acc.length<=i/\∃F' h' done rest,Rep X.K af ag F' ⟨dt link st1.ρ,h'⟩ bG H'/\Gr F1 F'/\fy (bd (dt link st1.ρ)) (ps.drop i) h'=some (rest,hf)/\done++rest=rs/\ay X.K F' done acc,
   ⟨ps.length,rfl,iA _,aF _,F1,st1.h,[],rs,⟨R1.c,R1.l.iW link⟩,Gr.refl _,e3,rfl,.nil⟩,?_⟩
  rintro i m acc bG H' ⟨rfl,hi,ha,F',h',done,rest,R',g',hr,hd,qE⟩
  obtain⟨wg,YQ⟩:=wk af ag F' _ bG H' R' g' i;by_cases oX:i<ps.length
  ·rw[yP oX]at hr;obtain⟨⟨o,h2⟩,e5,e6⟩:=aO hr;obtain⟨⟨r2,h3⟩,e7,e8⟩:=aP e6;cases e8;obtain⟨go,wy⟩:=wg ps[i] (eE oX);refine .inr ⟨go,pA (aY ha hi) (pA eW (by decide)),λx H2 y=>?_⟩
   obtain⟨F2,R2,s2,b2⟩:=wy x H2 y;refine hb F2 st1.ρ ps[i] h' h2 o x bG H2 _ e5 R2 b2 λo' oi H3 F3 R3 s3 b3=>⟨ps.length-(i+1),by lia,rfl,oX,?_,F3,h2,done++o.toList,r2,R3,g'.trans (s2.trans s3),e7,by rw[<-hd,kH],(qE.mono (s2.trans s3)).append b3⟩
   rw[bO];cases o'<;>simp <;> lia
  ·have e:i=ps.length:=by lia
   subst e;rw[List.drop_length]at hr;cases hr;rw[cY]at hd;subst hd;exact .inl ⟨YQ (uy (aF _)),aY ha (dY eW),λD hn=>xI R'.c R1.l g' qE hn e4 e2⟩
 | cl n =>
  obtain⟨a,hna,rfl⟩:=wk;refine⟨λi m acc bG H'=>i+m=ic/\acc.length<=i/\∃F' h' done rest,Rep X.K af ag F' ⟨dt link st1.ρ,h'⟩ bG H'/\Gr F1 F'/\BM (bd (dt link st1.ρ)) n m i h'=some (rest,hf)/\done++rest=rs/\ay X.K F' done acc,
   ⟨ic,uS _,aF _,F1,st1.h,[],rs,⟨R1.c,R1.l.iW link⟩,Gr.refl _,e3,rfl,.nil⟩,?_⟩
  rintro i m acc bG H' ⟨hm,ha,F',h',done,rest,R',g',hr,hd,qE⟩
  cases m with
  | zero=>cases hr
  | succ m =>
   have hr:(match MI n h' i with
    | some (some p)=>(bd (dt link st1.ρ) p h').bind λr=>(BM (bd (dt link st1.ρ)) n m (i+1) r.2).map λs=>(r.1.toList++s.1,s.2)
    | some none=>some ([],h')
    | none=>none)=some (rest,hf):=hr
   have Ad:i<=ic:=by lia
   cases z:MI n h' i with
   | none=>rw[z]at hr;cases hr
   | some o =>
    obtain⟨ps,vs,ho,hq,hbq⟩:=Gn R' (g'.m n a hna) z;rw[z]at hr;cases o with
    | none =>
     cases hr;rw[cY]at hd;subst hd;refine .inl ⟨⟨vs,hq,?_⟩,aY ha (dY Ad),λD hn=>xI R'.c R1.l g' qE hn e4 e2⟩
     rw[<-hbq.length];exact hJ.mp ho.symm
    | some p =>
     obtain⟨⟨o,h2⟩,e5,e6⟩:=aO hr;obtain⟨⟨r2,h3⟩,e7,e8⟩:=aP e6;cases e8;obtain⟨v,hv,bv⟩:=hbq.get ho.symm;refine .inr ⟨⟨vs,v,hq,hv⟩,pA (aY ha Ad) (by decide),λx H2 ⟨hH,y⟩=>?_⟩
     subst hH;have:=y vs hq;rw[hv]at this;cases this;refine hb F' st1.ρ p h' h2 o v bG H2 _ e5 R' bv λo' oi H3 F3 R3 s3 b3=>⟨m,pF m,by lia,?_,F3,h2,done++o.toList,r2,R3,g'.trans s3,e7,by rw[<-hd,kH],(qE.mono s3).append b3⟩
     rw[bO];cases o'<;>simp <;> lia
def Gq(hg:KG L g)(hL:∀i∈L,link[i]?=some none)(h:tE X af ag (jD cl link fi (ox g fe)) σ H Q):tx link (Er X af ag fi) (tb1 X af ag g fe) σ H Q :=
 tH (λF2 ρ p h h' o x bG H2 Q' e R2 b2 k=>by
  obtain⟨st1,e1,e⟩:=aO e;obtain⟨r,e2,e⟩:=aO e;obtain⟨⟨a,hh⟩,e3,e4⟩:=aP e;cases e4;obtain⟨wJ,rfl,rfl⟩:=xG e3;obtain⟨l1,k1⟩:=hg _ _ _ e1;refine⟨F2,_,p,st1,R2,b2,e1,λoi H3 F3 R3 s3 Y hY=>⟨F3,st1,by grind,_,e2,λv H4 F4 R4 s4 b4=>?_⟩⟩
  rw[hY]at R4 b4;exact k (some v) oi H4 F4 ⟨R4.c,(R3.l.mono s4).back (l1.symm.trans R3.l.len) rfl k1 hL⟩ (s3.trans s4) (.cons b4 .nil)) h
def Gu(hg:KG L g)(hL:∀i∈L,link[i]?=some none)(h:tE X af ag (jD cl link fi (xF g ft fe)) σ H Q):tx link (Er X af ag fi) (tb2 X af ag g ft fe) σ H Q :=
 tH (λF2 ρ p h h' o x bG H2 Q' e R2 b2 k=>by
  obtain⟨st1,e1,e⟩:=aO e;obtain⟨r,e2,e⟩:=aO e;obtain⟨l1,k1⟩:=hg _ _ _ e1;refine⟨F2,_,p,st1,R2,b2,e1,λoi H3 F3 R3 s3 Y hY=>⟨F3,st1,by grind,r,e2,?_⟩⟩
  match r,e with
  | (.ok b,dG),e =>
   intro b' H4 F4 R4 s4 eb;cases eb;cases b with
   | true =>
    have e:=e;obtain⟨r,e5,e⟩:=aO e;obtain⟨⟨a,hh⟩,e6,e7⟩:=aP e;cases e7;obtain⟨wJ,rfl,rfl⟩:=xG e6;rw[if_pos rfl];refine⟨F4,dG,R4,_,e5,λv H5 F5 R5 s5 b5=>?_⟩
    rw[hY]at R5 b5;exact k (some v) oi H5 F5 ⟨R5.c,(R3.l.mono (s4.trans s5)).back (l1.symm.trans R3.l.len) rfl k1 hL⟩ (s3.trans (s4.trans s5)) (.cons b5 .nil)
   | false =>
    have e:=e;cases e;rw[hY]at R4;exact k none oi H4 F4 ⟨R4.c,(R3.l.mono s4).back (l1.symm.trans R3.l.len) rfl k1 hL⟩ (s3.trans s4) .nil) h
end
noncomputable def oA:aj:=⟨.au,[]⟩
section
variable {K:W.Frag} {af H:Hp} {ag F F':Fz} {st:bY} {σ:St} {a:Addr} {n:Nat} {c:aj}
def Ut{μ:List Addr}(hd:μ.Nodup)(h1:μ[n]?=some a)(h2:μ[m]?=some b)(hm:m≠n):b≠a:=λz=>by
 subst z;exact hm ((List.getElem?_inj (dS.mp h2).1 hd).mp (h2.trans h1.symm))
def Rep.lock(R:Rep K af ag F st σ H)(ha:F.μ[n]?=some a)(hf:F.F a=none)(u:HO):Rep K af ag ⟨cU F.F a u,F.μ⟩ ⟨st.ρ,st.h.set n oA⟩ σ (cU H a u)/\Gr F ⟨cU F.F a u,F.μ⟩:=by
 have g:Gr F ⟨cU F.F a u,F.μ⟩:=⟨fR hf,λ_ _ h=>h⟩
 have h0:=(R.c.new n a ha).1;refine⟨⟨⟨λb o e=>?_,λb o e=>?_,R.c.base.trans g,λb o e=>?_,λm b e=>?_,by simp[R.c.hl],R.c.nd,λm d b hd hb hl=>?_⟩,R.l.mono g⟩,g⟩
 ·have e:cU F.F a u b=some o:=e;by_cases hb:b=a
  ·subst hb;rw[aA]at e ⊢;exact e
  ·rw[aN hb]at e ⊢;exact R.c.sub _ _ e
 ·rw[aN (dk e h0)];exact R.c.keep _ _ e
 ·have e:cU F.F a u b=some o:=e;by_cases hb:b=a
  ·subst hb;exact .inr h0
  ·rw[aN hb]at e;exact R.c.fresh _ _ e
 ·obtain⟨h1,o,h2⟩:=R.c.new m b e;by_cases hb:b=a
  ·subst hb;exact⟨h1,u,aA⟩
  ·exact⟨h1,o,by rw[aN hb];exact h2⟩
 ·by_cases hm:m=n
  ·subst hm;rw[List.getElem?_set_self' ]at hd;cases z:st.h[m]? with
   | none=>rw[z]at hd;cases hd
   | some d'=>rw[z]at hd;cases hd;cases hl
  ·rw[bW (bU hm)]at hd;have jS:=Ut R.c.nd ha hb hm;obtain⟨h1,vs,h2,h3⟩:=R.c.cell m d b hd hb hl;exact⟨(aN jS).trans h1,vs,h2.to g.s (λo e=>by rw[aN jS];exact e) (λz=>z),h3.mono g⟩
end
noncomputable def kr:bQ->PV
 | .inl i=>.int i
 | .inr x=>.str x
noncomputable def Dx:PV->Option (List PV)
 | .nd .lst qs=>some qs
 | _=>none
def acX(n:Nat)(ks:List (bQ×List bQ))(ps:List PV)(p q:PV):Option (List PV):=match p with
 | .ref m=>if m=n then(fU true q).bind λk=>(gX k ks ps).bind Dx else none
 | _=>none
section
variable {X:Cx} {af:Hp} {ag:Fz} {tg iter va vb:Expr} {fe fa fb:Gx PV} {f:Gx dB} {body:List Stmt} {pos acY:Pos} {D:xb} {g:Tg}
def Pp(fe:Gx PV):Gx PV:=bnd fe λp st=>match p with
 | .ref n=>(i9 st.h (.ref n)).bind λq=>match q.2.k with
  | .lst=>some (.ok (.lst q.2.ps),⟨st.ρ,st.h.set n oA⟩)
  | _=>none
 | p=>some (.ok p,st)
def Uu{e:Expr}(he:PE X e (tE X af ag fe)):PE X e (tE X af ag (Pp fe)):=he.imp λσ H Q h=>by
 obtain⟨F,st,R,h⟩:=h;refine⟨F,st,R,h.bnd λp v F1 st1 H1 R1 g1 b1 h1=>?_⟩
 have keep:(∀n,p≠.ref n)->Q v H1:=λhp=>by
  obtain⟨r,e1,e2⟩:=h1;cases p with
  | ref n=>exact absurd rfl (hp n)
  | _=>cases e1;exact e2 _ _ F1 R1 (Gr.refl _) b1
 cases p with
 | ref n =>
  obtain⟨r,e1,e2⟩:=h1;obtain⟨⟨m,c⟩,d1,e3⟩:=aO (show(i9 st1.h (.ref n)).bind _=some r from e1)
  obtain⟨z,YR,hl⟩:=gw d1;cases z;obtain⟨a,ha,rfl⟩:=dm.mp b1;obtain⟨ck,cp⟩:=c;cases ck with
  | lst =>
   cases e3;obtain⟨hf,ws,k1,hv⟩:=R1.c.cell n _ a YR ha hl;have k1:H1 a=some (.lst ws):=k1;obtain⟨R2,g2⟩:=R1.lock ha hf (.lst ws);have eH:cU H1 a (.lst ws)=H1:=by
    funext b
    by_cases hb:b=a
    ·subst hb;rw[aA,k1]
    ·rw[aN hb]
   rw[eH]at R2;exact e2 _ _ _ R2 g2 (dA.mpr ⟨a,ws,rfl,iR.of aA,hv.mono g2⟩)
  | _=>cases e3
 | _=>exact keep λ_ z=>nomatch z
end
def BP{P:Program}{w:World}{H':Hp}{h1 h5 B:Heap}(x:lG P w H' h1)(hB:∀b o,H' b=some o->∃ob,B.get? b=some ob)(k1:B.StaysIn h1)(k5:B.StaysIn h5):lG P w H' h5:=λa o e=>by
 have keep:∀b u o',H' b=some o'->h1.get? b=some u->h5.get? b=some u:=λb u o' eb q=>by
  obtain⟨ob,RF⟩:=hB b o' eb;have:=k1 b ob RF;rw[q]at this;cases this;exact k5 b _ RF
 refine(x a o e).w5 (λb u hb q=>?_) (λ_ q=>q) (λ_ _ q=>q) λ_ _ _ q=>q
 rcases hb with rfl | hb
 ·exact keep _ _ _ e q
 ·exact keep _ _ _ hb q
def Gv{l:List Env}{H H':Hp}{h h1 h5 B B':Heap}(u:Un (lN l) [] H H' h h1)(sm:Dm H H')(hB:∀b o,H' b=some o->∃ob,B.get? b=some ob)(hU:∀b ob,h.get? b=some ob->H b=none->b∉lN l->B.get? b=some ob)
  (k5:B.StaysIn h5) (fr:h1.FunFrames B' l) (up:h1.UpToSlots h5):Un (lN l) [] H H' h h5:=by
 have slot:∀b o,h.get? b=some o->H b=none->b∈lN l->∃sl,h5.get? b=some {o with slots:=sl}:=λb o q n hb=>by
  obtain⟨sl,e⟩:=u.slot b o q n hb (by simp)
  obtain⟨_,o',mP,hd⟩:=fr.mem hb;rw[e]at mP;cases mP;obtain⟨Sv,e'⟩:=up b _ e hd;exact⟨Sv,e'⟩
 refine⟨λb o q n hb _=>k5 b o (hU b o q n hb),λb o q n hb _=>slot b o q n hb,u.free,λb o q hx=>?_,u.tups,u.frzs,u.tbls⟩
 cases z:H b with
 | none =>
  by_cases hb:b∈lN l
  ·grind
  ·exact⟨o,k5 b o (hU b o q z hb)⟩
 | some v =>
  obtain⟨v',z'⟩:=sm b v z;obtain⟨ob,RF⟩:=hB b v' z';exact⟨ob,k5 b ob RF⟩
def Dy{P:Program}{w:World}{H:Hp}{h:Heap}{a:Addr}{o:HO}(x:fQ P w H h a o):∃ob,h.get? a=some ob:=by
 cases o with
 | lst xs=>obtain⟨_,_,_,_,e⟩:=x;exact⟨_,e⟩
 | au xs=>obtain⟨_,_,_,ob,e,_⟩:=x;exact⟨_,e⟩
 | dK kvs=>obtain⟨_,_,_,_,o,_,_,e,_⟩:=x;exact⟨_,e⟩
 | dT kvs=>obtain⟨_,_,o,_,_,e,_⟩:=x;exact⟨_,e⟩
 | set S n=>obtain⟨o,_,_,_,e,_⟩:=x;exact⟨_,e⟩
 | ins C dx fs=>obtain⟨_,_,_,e,_⟩:=x;exact⟨_,e⟩
 | own y=>obtain⟨_,e⟩:=x;exact⟨_,e⟩
 | xd fs=>obtain⟨_,⟨_,_,_,e,_⟩,_⟩:=x;exact⟨_,e⟩
 | Wt lo hi=>obtain⟨_,_,_,e⟩:=x;exact⟨_,e⟩
 | wU ob u=>obtain⟨e,_⟩:=x;exact⟨_,e⟩
 | zE q=>obtain⟨_,e,_⟩:=x;exact⟨_,e⟩
 | Ws f y=>exact⟨_,show h.get? a=some _ from x⟩
 | ext φ=>obtain⟨_,⟨_,e⟩,_⟩:=x;exact⟨_,e⟩
section
variable {P:Program} {w:World} {K:W.Frag} {mg:Str->Option Value} {base:Heap} {N:List Str} {qual:Str} {scope:Scope} {f:Addr} {cd:Value} {A:Around} {aB:List Env} {s:Shared} {H:Hp} {E E1:XK} {ah:List (Addr×Obj)} {σ:St} {H1:Hp} {s1 s':Shared} {e:Value}
def BQ(I:Inv (fq (ij P w) P w K mg base N qual scope f cd A aB s H E) ah σ H1 s1){b:Addr}{ob:Obj}(q:s.heap.get? b=some ob)(hb:b∉lN aB):b∉lN (envOfC qual scope s.heap.objs.size f cd::aB):=λhm=>by
 rcases aC.mp (I.uY b hm)with z | z
 ·exact absurd (aH q) (by rw[z];exact fH _)
 ·exact hb z
def xJ(I:Inv (fq (ij P w) P w K mg base N qual scope f cd A aB s H E) ah σ H1 s1)(h:ij P w (envOfC qual scope s.heap.objs.size f cd::aB) H1 s1 E1 e s')(hE:∀cls H2,E1 cls none H2->Dm H H2/\E cls none H2) :
  (fq (ij P w) P w K mg base N qual scope f cd A aB s H E).xe e s':=by
 obtain⟨a,cls,a0,B,H2,rfl,IC,hb,un,hok,sm,he,Pq,hB,hU⟩:=h;obtain⟨Uv,hE⟩:=hE cls H2 he;have I2:=I.Ml IC un hok hb (λb z=>absurd z (by simp))
 refine wpAny_leaves_onW I.ok.frames rfl Pq λh' Pr up=>?_
 have hU':∀b ob,s.heap.get? b=some ob->H b=none->b∉lN aB->B.get? b=some ob:=λb ob q n hb=>hU b ob (I.base.keep b ob q n hb (by simp[fq])) (I.base.free b ob q n (by simp[fq])) (BQ I q hb)
 exact⟨a,cls,a0,B,H2,rfl,IC.trans I.os,hb,Gv I2.base Uv hB hU' Pr.1 Pq.2.2.1.2.2 up,BP hok hB Pq.1 Pr.1,Uv,hE,Pr,hB,hU'⟩
def BR{h1:Heap}{a:Addr}{cls:Value}{vs:List Value}(I:Inv (fq (ij P w) P w K mg base N qual scope f cd A aB s H E) ah σ H1 s1)(hm:Heap.MadeExcOf s1.heap h1 a cls vs)(Uv:Dm H H1)(hE:E cls none H1) :
  (fq (ij P w) P w K mg base N qual scope f cd A aB s H E).xe (.ref a) {s1 with heap:=h1}:=by
 have hB:∀b o,H1 b=some o->∃ob,(W.hideAll s1.heap (lN (envOfC qual scope s.heap.objs.size f cd::aB))).get? b=some ob:=λb o e=>by
  obtain⟨ob,q⟩:=Dy (I.hok b o e);exact⟨ob,W.hideAll_get _ q λhb=>by
   have:=I.uZ b hb;rw[e]at this;cases this⟩
 have hU:∀b ob,s.heap.get? b=some ob->H b=none->b∉lN aB->(W.hideAll s1.heap (lN (envOfC qual scope s.heap.objs.size f cd::aB))).get? b=some ob:=λb ob q n hb =>
  W.hideAll_get _ (I.base.keep b ob q n hb (by simp[fq])) (BQ I q hb)
 refine wpAny_leaves_madeW I.ok.frames rfl (λb o q=>W.of_hideAll _ q) (W.funFrames_hide I.stack λenv he b hb=>pB.mpr ⟨env,he,hb⟩) hm λh' t Pq au tn up=>?_
 refine⟨a,cls,.ref t,_,H1,rfl,I.os,I.bare,Gv (I.base.trans (Un.kept hm.keeps)) Uv hB hU Pq.1 (I.funs.of_keeps λb o q _=>⟨o,hm.keeps b o q,rfl⟩) up,BP (I.hok.kept hm.keeps) hB (λb o q=>hm.keeps b o (W.of_hideAll _ q)) Pq.1,Uv,hE,Pq,hB,hU⟩
end
def vC(K:W.Frag)(f:Addr)(cW:Value):Prop:=∃oc od fd pZ,K.lookup f=some ⟨oc,od,.func fd,pZ⟩/\fd.code=cW
def Kv{P:Program}{w:World}{K:W.Frag}{mg:Str->Option Value}{base:Heap}{x qual:Str}{st:Stmt}{f:Addr}{fd:FuncData}{N ps:List Str}{k:Nat}{sp:Sp}(F:Mc K x qual st f fd)(S:cM N ps (aw st))(len:∀vs H Q E,sp vs H Q E->vs.length=ps.length)
  (hbody:∀(cW:Value) (A:Around) (aB:List Env) (s:Shared) (H:Hp) (vs:List V) (Q:VK) (E:XK),vC K f cW->c7 k (A.deeper (envOfC qual (aw st) s.heap.objs.size f cW))->sp vs H Q E ->
   ∃t,PSs (fq (ij P w) P w K mg base N qual (aw st) f cW A aB s H E) (b8 st) t/\t {nx:=λ_ H'=>Q .aL H',rt:=Q} (start N vs) H):FnOk P w K mg base (ij P w) (k+1) f fd ps sp:=by
 obtain⟨oc,od,kV,doc,pm,an,cW,ct,pZ,rfl,lk,wI⟩:=F.ex;exact Mq lk wI S len λA aB s H vs Q E hr Mr=>hbody cW A aB s H vs Q E ⟨oc,od,_,pZ,lk,rfl⟩ hr Mr
noncomputable def sj(H:Hp)(μ:List Addr):Hp:=λb=>if b∈μ then none else H b
section
variable {K:W.Frag} {af H H':Hp} {ag F F':Fz} {h h':List aj}
def Dz{μ:List Addr}{b:Addr}{o:HO}(e:sj H μ b=some o):H b=some o/\b∉μ:=by
 unfold sj at e;split at e
 ·cases e
 ·grind
def DA{μ:List Addr}{b:Addr}(e:sj H μ b=none):H b=none\/b∈μ:=by
 unfold sj at e;split at e
 ·grind
 ·grind
def lH.enter(C:lH K af ag F h H):lH K (sj H F.μ) F F h H/\∀b o,H b=some o->sj H F.μ b=some o\/∃n:Nat,F.μ[n]?=some b:=by
 refine⟨⟨C.sub,λb o e=>(Dz e).1,Gr.refl F,λa o e=>.inl e,λn a e=>⟨if_pos (pj e),(C.new n a e).2⟩,C.hl,C.nd,C.cell⟩,λb o e=>?_⟩
 by_cases hb:b∈F.μ
 ·obtain⟨n,hn⟩:=uz.mp hb;exact .inr ⟨n,hn⟩
 ·exact .inl (by unfold sj;rw[if_neg hb];exact e)
def lH.leave(C:lH K af ag F h H)(D:lH K (sj H F.μ) F F' h' H'):lH K af ag F' h' H':=by
 have none_of:∀a,sj H F.μ a=none->af a=none:=λa e=>by
  rcases DA e with z | z
  ·exact C.keep.free z
  ·obtain⟨n,hn⟩:=uz.mp z;exact(C.new n a hn).1
 refine⟨D.sub,λb o e=>D.keep b o ?_,C.base.trans D.base,λa o e=>?_,λn a e=>⟨none_of a (D.new n a e).1,(D.new n a e).2⟩,D.hl,D.nd,D.cell⟩
 ·unfold sj;rw[if_neg λhb=>?_]
  ·exact C.keep b o e
  ·obtain⟨n,hn⟩:=uz.mp hb;rw[(C.new n b hn).1]at e;cases e
 ·rcases D.fresh a o e with z | z
  ·exact C.fresh a o z
  ·grind
end
abbrev jW:=List PV->List aj->Option (Rs PV×List aj)
def YS(K:W.Frag)(af:Hp)(F:Fz)(h':List aj)(Q:VK)(E:XK):Rs PV->Prop
 | .ok p=>∀v F' H',lH K af F F' h' H'->bj K F' p v->Q v H'
 | .ex _ C=>∀cls F' H',lH K af F F' h' H'->ClsAt K C cls->E cls none H'
def tJ(K:W.Frag)(n:Nat)(f:jW):Sp:=λvs H Q E=>∃af F h ps r h',lH K af F F h H/\(∀b o,H b=some o->af b=some o\/∃n:Nat,F.μ[n]?=some b)/\ay K F ps vs/\ps.length=n/\f ps h=some (r,h')/\YS K af F h' Q E r
noncomputable def gj(n:Nat)(ps:List PV):List (Option PV):=ps.map some++List.replicate (n-ps.length) none
noncomputable def MJ:Rs dB×bY->Option (Rs PV×List aj)
 | (.ok (.rt p),st)=>some (.ok p,st.h)
 | (.ok .nx,st)=>some (.ok .aL,st.h)
 | (.ex m C,st)=>some (.ex m C,st.h)
 | _=>none
def gT(fb:Gx dB)(n:Nat):jW:=λps h=>(fb ⟨gj n ps,h⟩).bind MJ
def xK{K:W.Frag}{F:Fz}{ps:List PV}{vs:List V}{N:List Str}(b:ay K F ps vs):Lc K F (gj N.length ps) (start N vs) where
 av:=λi p e=>by
  unfold gj at e;unfold start;by_cases hi:i<ps.length
  ·rw[gz (by simpa using hi),cQ]at e
   cases z:ps[i]? with
   | none=>rw[z]at e;cases e
   | some q =>
    rw[z]at e;cases e;obtain⟨v,h1,h2⟩:=b.get z;refine⟨v,?_,h2⟩;rw[gz (by simpa using (b.length▸hi)),cQ,h1]
    rfl
  ·rw[kA (by simpa using hi),List.getElem?_replicate]at e
   split at e<;>cases e
 len:=by unfold gj start;simp[b.length]
def BS{K:W.Frag}{af H H':Hp}{F F':Fz}{h':List aj}(full:∀b o,H b=some o->af b=some o\/∃n:Nat,F.μ[n]?=some b)(D:lH K af F F' h' H'):Dm H H':=λb o e=>by
 rcases full b o e with z | ⟨n,hn⟩
 ·exact⟨o,D.keep b o z⟩
 ·exact(D.new n b (D.base.m n b hn)).2
def Pt{P:Program}{w:World}{K:W.Frag}{mg:Str->Option Value}{base:Heap}{x qual:Str}{st:Stmt}{f:Addr}{fd:FuncData}{N ps:List Str}{k:Nat}{fb:Gx dB}(F:Mc K x qual st f fd)(S:cM N ps (aw st))
  (hbody:∀(cW:Value) (A:Around) (aB:List Env) (s:Shared) (H:Hp) (E:XK),vC K f cW->c7 k (A.deeper (envOfC qual (aw st) s.heap.objs.size f cW))->∀(af:Hp) (ag:Fz),
   PSs (fq (ij P w) P w K mg base N qual (aw st) f cW A aB s H E) (b8 st) (tS (fq (ij P w) P w K mg base N qual (aw st) f cW A aB s H E) af ag fb)):FnOk P w K mg base (ij P w) (k+1) f fd ps (tJ K ps.length (gT fb N.length)):=by
 refine Kv F S (by rintro vs H Q E ⟨_,_,_,_,_,_,_,_,b,hl,_⟩;rw[<-b.length];exact hl) λcW A aB s H vs Q E WS hr z9=>?_
 obtain⟨af,F,h,as,r,h',C,full,b,hl,hf,res⟩:=z9;refine⟨_,hbody cW A aB s H E WS hr af F,F,⟨gj N.length as,h⟩,⟨C,xK b⟩,?_⟩;obtain⟨q,e1,e2⟩:=aO hf;refine⟨q,e1,?_⟩;rcases q with⟨f | ⟨m,c⟩,st⟩
 ·cases f with
  | rt=>cases e2;exact λv F' H' C' g b'=>res v F' H' C' b'
  | nx=>cases e2;exact λF' bG H' R g=>res .aL F' H' R.c (cX.mpr rfl)
  | _=>cases e2
 ·cases e2;cases m with
  | true=>exact λF' bG H' ah s1 h1 a cls vs R sf I hc hm=>BR I hm (BS full R.c) (res cls F' H' R.c hc)
  | false=>exact λbG ah H1 s1 e s' I h=>xJ I h (by rintro cls H2 ⟨hc,F',R,sf⟩;exact⟨BS full R.c,res cls F' H2 R.c hc⟩)
mutual
def noRef:PV->Bool
 | .ref _=>false
 | .nd _ ps=>ao ps
 | _=>true
def ao:List PV->Bool
 | []=>true
 | p::ps=>noRef p&&ao ps
end
section
variable {K:W.Frag} {F:Fz} {μ:List Addr}
mutual
theorem bj.any:∀{p:PV} {v:V},noRef p=true->bj K F p v->bj K ⟨F.F,μ⟩ p v
 | .aL,_,_,b=>cX.mpr (cX.mp b)
 | .bl _,_,_,b=>br.mpr (br.mp b)
 | .int _,_,_,b=>aG.mpr (aG.mp b)
 | .str _,_,_,b=>bN.mpr (bN.mp b)
 | .fn _,_,_,b=>qz.mpr (qz.mp b)
 | .ref _,_,h,_=>by simp[noRef]at h
 | .nd k ps,_,h,b=>by
  obtain⟨a,vs,h1,h2,h3⟩:=iD.mp b;exact iD.mpr ⟨a,vs,h1,h2,ay.any h h3⟩
theorem ay.any:∀{ps:List PV} {vs:List V},ao ps=true->ay K F ps vs->ay K ⟨F.F,μ⟩ ps vs
 | [],_,_,b=>by rw[b.cx];exact .nil
 | _::_,_,h,b=>by
  simp only[ao,aJ]at h;obtain⟨v,r,rfl,b1,b2⟩:=b.bV;exact .cons (b1.any h.1) (ay.any h.2 b2)
end
end
def lI(h:List aj):Nat->PV->Option PV
 | 0,p=>if noRef p=true then some p else none
 | n+1,p=>if noRef p=true then some p else match p with
  | .ref m=>(h[m]?).bind λc=>if live c=true then(dO (lI h n) c.ps).map (.nd c.k)else none
  | .nd k ps=>(dO (lI h n) ps).map (.nd k)
  | _=>none
open Classical in
noncomputable def j6 (F:Fz) (h:List aj) (H:Hp):Hp:=λa=>match F.F a with
 | some o=>some o
 | none=>if(∃(n:Nat) (c:aj),F.μ[n]?=some a/\h[n]?=some c/\live c=true)then H a else none
section
variable {K:W.Frag} {af H:Hp} {ag F:Fz} {h:List aj}
def iq{a:Addr}{o:HO}(e:F.F a=some o):j6 F h H a=some o:=by unfold j6;rw[e]
def DB{a:Addr}{n:Nat}{c:aj}(e:F.F a=none)(h1:F.μ[n]?=some a)(h2:h[n]?=some c)(h3:live c=true):j6 F h H a=H a:=by
 unfold j6;rw[e];exact if_pos ⟨n,c,h1,h2,h3⟩
def xM{a:Addr}{o:HO}(e:j6 F h H a=some o):F.F a=some o\/(H a=some o/\∃n:Nat,F.μ[n]?=some a):=by
 unfold j6 at e;split at e
 ·grind
 ·split at e
  ·grind
  ·cases e
def lH.lI(C:lH K af ag F h H)(μ:List Addr):∀(n:Nat) (p q:PV) (v:V),lI h n p=some q->bj K F p v->bj K ⟨j6 F h H,μ⟩ q v:=by
 have keep:∀{p:PV} {v:V},noRef p=true->bj K F p v->bj K ⟨j6 F h H,μ⟩ p v:=λhn b =>
  bj.mono (F:=⟨F.F,μ⟩) (F':=⟨j6 F h H,μ⟩) ⟨λb o e=>iq e,λ_ _ e=>e⟩ (b.any hn)
 intro n;induction n with
 | zero =>
  intro p q v e b;obtain⟨hn,rfl⟩:=aE e;exact keep hn b
 | succ n ih =>
  intro p q v e b;unfold U.lI at e;split at e
  ·grind
  ·have list:∀(ps qs:List PV) vs,dO (U.lI h n) ps=some qs->ay K F ps vs->ay K ⟨j6 F h H,μ⟩ qs vs:=by
    intro ps;induction ps with
    | nil=>intro qs vs e b;cases e;rw[b.cx];exact .nil
    | cons p ps ih2 =>
     intro qs vs e b;obtain⟨y,r,e1,e2,rfl⟩:=fK e;obtain⟨v,w,rfl,b1,b2⟩:=b.bV;exact .cons (ih p y v e1 b1) (ih2 r w e2 b2)
   split at e
   ·obtain⟨c,e1,e⟩:=aO e;obtain⟨hl,e⟩:=bT e;obtain⟨qs,e2,rfl⟩:=aP e;obtain⟨a,h1,h2⟩:=dm.mp b;obtain⟨hF,vs,h3,h4⟩:=C.cell _ c a e1 h1 hl;exact iD.mpr ⟨a,vs,h2,h3.to (λb o e=>iq e) (λo e=>by rw[show(Fz.mk (j6 F h H) μ).F a=j6 F h H a from rfl,DB hF h1 e1 hl];exact e) (λz=>by cases z),list _ _ _ e2 h4⟩
   ·obtain⟨qs,e2,rfl⟩:=aP e;obtain⟨a,vs,h1,h2,h3⟩:=iD.mp b;exact iD.mpr ⟨a,vs,h1,h2.to (λb o e=>iq e) (λo e=>iq e) id,list _ _ _ e2 h3⟩
   ·cases e
end
section
variable {X:Cx} {af:Hp} {ag:Fz} {e:Expr} {es:List Expr} {ts:Gx (List PV)} {pos p:Pos} {k n:Nat} {f:Addr} {fd:FuncData} {ps:List Str} {x:Str} {g:jW}
def oZ{CX:CO}{sp:Sp}{E:XK}{ah:List (Addr×Obj)}{σ:St}{H:Hp}{s:Shared}{Q:VK}{us:List Value}{vs:List V}(F:FnOk X.prog X.w X.K X.mg X.base CX k f fd ps sp)(hr:c7 k X.A)(hb:cL X.K fd ps [])(hx:∀e s',CX X.stack H s E e s'->X.xe e s')
  (I:Inv X ah σ H s) (r:Vals vs us) (h:sp vs H Q E):wpAny (model X.prog X.w) X.A (call (.ref f) us) (EP X ah σ Q) X.xe s:=by
 have RN:=hb s us I.og (by rw[cY,<-r.length];exact F.len _ _ _ _ h)
 rw[cY]at RN;refine wpAny_call (pT (F.run X.A X.stack s H ⟨us,[]⟩ us vs Q E hr I.Ot RN r h) λr s' hq=>?_)
 cases r with
 | error e=>exact hx e s' hq
 | ok fl =>
  cases fl with
  | ret u=>exact I.after hq
  | next=>exact False.elim hq
  | brk=>exact False.elim hq
  | cont=>exact False.elim hq
noncomputable def Uw:Rs PV->Rs PV
 | .ok p=>.ok p
 | .ex _ C=>.ex false C
def gM(h:List aj)(p:PV):Option PV:=if h.isEmpty=true then some p else lI h 4 p
def Pu(st:bY):Rs PV×List aj->Option (Rs PV×bY)
 | (.ok p,h)=>(gM h p).map λq=>(.ok q,st)
 | (.ex _ C,_)=>some (.ex false C,st)
def ig(n:Nat)(g:jW)(as:List PV):Gx PV:=λst=>if as.length=n then(g as st.h).map λr=>(Uw r.1,⟨st.ρ,r.2⟩)else none
def jE(n:Nat)(g:jW)(as:List PV):Gx PV:=λst=>if as.length=n/\(st.h.isEmpty || ao as)=true then(g as []).bind (Pu st)else none
def MK(n:Nat)(g:jW)(ts:Gx (List PV)):Gx PV:=bnd ts (jE n g)
def Aq(X:Cx)(f:Addr)(w:List PV->Gx PV):Prop:=∀(af H:Hp) (ag F:Fz) (st:bY) (σ:St) (ah:List (Addr×Obj)) (s:Shared) (Q:VK) (as:List PV) (us:List Value) (vs:List V),Inv X ah σ H s->Rep X.K af ag F st σ H->ay X.K F as vs->Vals vs us->Tx X af ag (bj X.K) F st (w as) σ Q ->
 wpAny (model X.prog X.w) X.A (call (.ref f) us) (EP X ah σ Q) X.xe s
def Pw(G:FnOk X.prog X.w X.K X.mg X.base (ij X.prog X.w) k f fd ps (tJ X.K n g))(hr:c7 k X.A)(hb:cL X.K fd ps []):Aq X f (ig n g):=by
 rintro af H ag F st σ ah s Q as us vs I R b r ⟨q,e1,e2⟩
 obtain⟨hl,e1⟩:=bT e1;obtain⟨⟨rs,h'⟩,e3,e4⟩:=aP e1;subst e4;obtain⟨C,full⟩:=R.c.enter;cases rs with
 | ok p'=>exact oZ G hr hb (λe s' hx=>td ah σ H s e s' I hx) I r ⟨_,F,st.h,as,_,h',C,full,b,hl,e3,λv F' H' D b'=>e2 v H' F' ⟨R.c.leave D,R.l.mono D.base⟩ D.base b'⟩
 | ex m c=>exact thn (oZ (Q:=λ_ _=>False) G hr hb (λe s' hx=>e2 σ ah H s e s' I hx) I r ⟨_,F,st.h,as,_,h',C,full,b,hl,e3,λcls F' H' D hc=>⟨hc,F',⟨R.c.leave D,R.l.mono D.base⟩,D.base⟩⟩) (by rintro v s3 ⟨_,_,_,_,z⟩;exact z.elim)
def Rep.back{K:W.Frag}{af H H1 H':Hp}{ag F F':Fz}{μ:List Addr}{st:bY}{σ:St}{h':List aj}(R:Rep K af ag F st σ H)(hH:cw H H1)(D:lH K H1 ⟨F.F,μ⟩ F' h' H'):Rep K af ag ⟨j6 F' h' H',F.μ⟩ st σ H'/\Gr F ⟨j6 F' h' H',F.μ⟩:=by
 have g:cw F.F (j6 F' h' H'):=λb o e=>iq (D.base.s b o e)
 refine⟨R.after (hH.trans D.keep) g rfl (λb o e=>?_) (λa o e=>?_),g,λ_ _ z=>z⟩
 ·rcases xM e with z | ⟨z,_⟩
  ·exact D.sub b o z
  ·exact z
 ·rcases xM e with z | ⟨_,n,z⟩
  ·exact(D.fresh a o z).imp_right hH.free
  ·exact .inr (hH.free (D.new n a z).1)
def lH.pure{K:W.Frag}{af H:Hp}{ag F:Fz}{h:List aj}(C:lH K af ag F h H):lH K H ⟨F.F,[]⟩ ⟨F.F,[]⟩ [] H :=
 ⟨C.sub,cw.refl H,Gr.refl _,λa o e=>.inl e,λn a e=>by simp at e,rfl,pO,λn c a e=>by simp at e⟩
def xN{K:W.Frag}{H H':Hp}{G F':Fz}{h':List aj}{p q:PV}{v:V}(μ:List Addr)(D:lH K H G F' h' H')(e:gM h' p=some q)(b:bj K F' p v):bj K ⟨j6 F' h' H',μ⟩ q v:=by
 unfold gM at e;split at e
 ·rename_i z;cases e;have e0:F'.μ=[]:=uq (by rw[<-D.hl,zx.mp z];rfl)
  exact b.mono ⟨λb o e=>iq e,λn a e=>by rw[e0]at e;simp at e⟩
 ·exact D.lI μ _ _ _ _ e b
def tK{K:W.Frag}{af H:Hp}{ag F:Fz}{st:bY}{σ:St}{as:List PV}{vs:List V}(R:Rep K af ag F st σ H)(hn:(st.h.isEmpty || ao as)=true)(b:ay K F as vs)(μ:List Addr):ay K ⟨F.F,μ⟩ as vs:=by
 rcases Bool.or_eq_true _ _▸hn with z | z
 ·have e0:F.μ=[]:=uq (by rw[<-R.c.hl,zx.mp z];rfl)
  exact ay.mono (F:=F) (F':=⟨F.F,μ⟩) ⟨cw.refl _,λn a e=>by rw[e0]at e;simp at e⟩ b
 ·exact b.any z
def Ux(G:FnOk X.prog X.w X.K X.mg X.base (ij X.prog X.w) k f fd ps (tJ X.K n g))(hr:c7 k X.A)(hb:cL X.K fd ps []):Aq X f (jE n g):=by
 rintro af H ag F st σ ah s Q as us vs I R b r ⟨q,e1,e2⟩
 obtain⟨⟨hl,hn⟩,e1⟩:=bT e1;obtain⟨⟨rs,h'⟩,e3,e4⟩:=aO e1;have full:∀b o,H b=some o->H b=some o\/∃n:Nat,(Fz.mk F.F []).μ[n]?=some b:=by grind
 have b3:=tK R hn b [];cases rs with
 | ok p' =>
  obtain⟨p2,e5,e6⟩:=aP e4;subst e6;refine oZ G hr hb (λe s' hx=>td ah σ H s e s' I hx) I r ⟨H,⟨F.F,[]⟩,[],as,_,h',R.c.pure,full,b3,hl,e3,λv F' H' D b'=>?_⟩
  obtain⟨R3,g3⟩:=R.back (cw.refl _) D;exact e2 v H' _ R3 g3 (xN F.μ D e5 b')
 | ex m c =>
  cases e4;refine thn (oZ (Q:=λ_ _=>False) G hr hb (λe s' hx=>e2 σ ah H s e s' I hx) I r ⟨H,⟨F.F,[]⟩,[],as,_,h',R.c.pure,full,b3,hl,e3,λcls F' H' D hc=>?_⟩) (by rintro v s3 ⟨_,_,_,_,z⟩;exact z.elim)
  obtain⟨R3,g3⟩:=R.back (cw.refl _) D;exact⟨hc,_,R3,g3⟩
def Gw{w:List PV->Gx PV}(G:Aq X f w)(hg:Gl X x)(hm:X.mg x=some (.ref f))(hk:W.keepIn X.K (.ref f)=true)(ha:PA X (e::es) (tA X af ag ts))(zO:(x==("__debug__":Str))=false)
  (he:starEach (e::es) X.env=(false,eval e X.env)::starEach es X.env) (qa:(backTo pos (starEach es X.env)).any (·.1)=false):PE X (.Call (.Name x p) (e::es) [] pos) (tE X af ag (bnd ts w)):=by
 rintro ah s σ H Q I ⟨F1,st,R,h⟩
 refine mU (ld_glob I hg hm ?_ zO);exact W.callWith_K I.ok.mod.kin hk (thn (ha pos ah s σ H (λvs H2=>∃F2 dG as,Rep X.K af ag F2 dG σ H2/\ay X.K F2 as vs/\Tx X af ag (bj X.K) F2 dG (w as) σ Q) I
  ⟨F1,st,R,h.bnd λas vs F2 dG H2 R2 g2 b2 h2=>⟨F2,dG,as,R2,b2,h2⟩⟩) (by rintro us s1 ⟨vs,H2,I2,r,F2,dG,as,R2,b2,z⟩;exact⟨I2.og,G _ _ _ _ _ _ _ _ _ _ _ _ I2 R2 b2 r z⟩)) he qa
end
noncomputable def Uy(T:String):Kd->Bool
 | .lst=>T=="list"
 | .eQ _ _=>T=="dict"
 | _=>false
def tyG(T:String)(p:PV):Gx Unit:=hp λh=>(cS h p).bind λq=>if Uy T q.1=true then some ()else none
section
variable {X:Cx} {af:Hp} {ag:Fz} {e o:Expr} {es:List Expr} {fo fe:Gx PV} {ts:Gx (List PV)} {pos eP iG:Pos} {T id:String} {name:Str} {r:V->List V->Hp->VK->Prop}
def Rep.tyV{K:W.Frag}{st:bY}(R:Rep K af ag F st σ H)(e:cS st.h p=some (k,ps))(ht:Uy T k=true)(b:bj K F p v):L2.tyV K T v H:=by
 obtain⟨a,vs,rfl,h2,h3⟩:=R.at e b
 match k,ht,h2 with
 | .lst,ht,h2=>exact .inl ⟨aV ht,vs,iR.sq h2⟩
 | .eQ false ks,ht,⟨kvs,h2,_⟩=>exact .inr (.inr (.inl ⟨aV ht,.inl ⟨kvs,h2⟩⟩))
 | .eQ true ks,ht,⟨xs,h2,_⟩=>exact .inr (.inr (.inl ⟨aV ht,.inr ⟨xs,h2⟩⟩))
def IF(T:String)(w:PV->List PV->Gx PV)(fo:Gx PV)(ts:Gx (List PV)):Gx PV:=bnd fo λp=>bnd (tyG T p) λ_=>bnd ts λas=>w p as
def WT(X:Cx)(r:V->List V->Hp->VK->Prop)(w:PV->List PV->Gx PV):Prop:=∀(af H:Hp) (ag F:Fz) (st:bY) (σ:St) (p:PV) (as:List PV) (v:V) (ws:List V) (Q:VK),Tx X af ag (bj X.K) F st (w p as) σ Q->Rep X.K af ag F st σ H->bj X.K F p v->ay X.K F as ws->r v ws H Q
def Gy(hw:WT X r w)(h:tE X af ag (IF T w fo ts) σ H Q):tBM X.K T r (tE X af ag fo) (tA X af ag ts) σ H Q:=by
 obtain⟨F,st,R,h⟩:=h;refine⟨F,st,R,h.bnd λp v F1 st1 H1 R1 g1 b1 h1=>?_⟩
 obtain⟨u,e,z⟩:=At.hp (At.bnd h1);obtain⟨⟨k,ps⟩,e1,e2⟩:=aO e;obtain⟨hk,_⟩:=aE e2;refine⟨R1.tyV e1 hk b1,F1,st1,R1,Tx.bnd z λas ws F2 dG H2 R2 g2 b2 h2=>hw af H2 ag F2 dG σ p as v ws Q h2 R2 (b1.mono g2) b2⟩
def Kw(hw:WT X r w)(h:tE X af ag (IF T w fo (cA [])) σ H Q):Td X.K T r (tE X af ag fo) σ H Q:=by
 obtain⟨F,st,R,h⟩:=h;refine⟨F,st,R,h.bnd λp v F1 st1 H1 R1 g1 b1 h1=>?_⟩
 obtain⟨u,e,z⟩:=At.hp (At.bnd h1);obtain⟨⟨k,ps⟩,e1,e2⟩:=aO e;obtain⟨hk,_⟩:=aE e2;exact⟨R1.tyV e1 hk b1,hw af H1 ag F1 st1 σ p [] v [] Q (At.cA (At.bnd z)) R1 b1 .nil⟩
def Gz(hg:F7 X.K r g):WT X r (fu g):=λ_ _ _ _ _ _ _ _ _ _ _ h R bp ba=>Tx.mut hg h R bp ba
def Px:WT X (Pa X.K) ow:=λ_ _ _ _ _ _ _ _ _ _ _ h R bp ba=>Tx.ext h R bp ba
def xO(m:Str):Option (String×(PV->List PV->Gx PV)) :=
 if m==("append":Str)then some ("list",fu (dN fw))
 else if m==("extend":Str)then some ("list",ow)
 else none
noncomputable def GA(m:Str):Option (String×(PV->List PV->Gx PV)) :=
 none
def YT(hu:X.A.units+1150<cLine)(ht:xO name=some (T,w))(ho:PE X o (tE X af ag fo))(ha:PA X (e::es) (tA X af ag ts))(lU:attributeBase o name X.env (eval o X.env)=eval o X.env)
  (JM:((backTo iG (starEach (e::es) X.env)).all (λx=>!x.1)&&(backToKw iG (keywordEach [] X.env)).all (λx=>x.1.isSome)&&decide ((e::es).length+([]:List Keyword).length+(if([]:List Keyword).isEmpty then 0 else 1)<30))=true)
  (lV:(eP.endLine==iG.line)=true) (rS:starEach (e::es) X.env=(false,eval e X.env)::starEach es X.env) (qa:(backTo iG (starEach es X.env)).any (·.1)=false):PE X (.Call (.Attribute o name eP) (e::es) [] iG) (tE X af ag (IF T w fo ts)):=by
 unfold xO at ht;split at ht
 ·rename_i hx;cases ht;have hx:=aV hx;subst hx;exact(Ms yT PySem.F.slot_list_append PySem.F.type_list_append Dd ho ha lU JM lV rS qa).imp λ_ _ _ h=>Gy (Gz Ki) h
 ·split at ht
  ·rename_i hx;cases ht;have hx:=aV hx;subst hx;exact(Ms yT PySem.F.slot_list_extend PySem.F.type_list_extend Pb ho ha lU JM lV rS qa).imp λ_ _ _ h=>Gy Px h
  ·cases ht
def Uz(ht:GA name=some (T,w))(ho:PE X o (tE X af ag fo))(lU:attributeBase o name X.env (eval o X.env)=eval o X.env)(lV:(eP.endLine==iG.line)=true) :
  PE X (.Call (.Attribute o name eP) [] [] iG) (tE X af ag (IF T w fo (cA []))):=by
 cases ht
def nH(po pi pv:PV):bY->Option bY:=λst=>(i9 st.h po).bind λc=>match c.2.k with
 | .lst=>(nC pi).bind λi=>(Dc c.2.ps.length i).map λj=>⟨st.ρ,st.h.set c.1 ⟨.lst,c.2.ps.set j pv⟩⟩
 | .eQ t ks=>(fU t pi).bind λk=>if ks.length<ic then some ⟨st.ρ,st.h.set c.1 (iH t k pv ks c.2.ps)⟩else none
 | _=>none
def YU(K:W.Frag):E9:=λo i v H Q=>∃af ag F st τ po pi pv st',nH po pi pv st=some st'/\Rep K af ag F st τ H/\bj K F po o/\bj K F pi i/\bj K F pv v/\∀H' F',Rep K af ag F' st' τ H'->Gr F F'->Q H'
def UA(hu:X.A.units+1150<cLine):Fb X (YU X.K):=by
 rintro ah s σ H o i v ov iv u Q I ro ri rv ⟨af,ag,F,st,τ,po,pi,pv,st',e,R,bo,bi,bv,k⟩
 obtain⟨⟨n,c⟩,e1,e0⟩:=aO e;clear e;have e:=e0;clear e0;obtain⟨rfl,hc,hl⟩:=gw e1;obtain⟨a,ha,rfl⟩:=dm.mp bo;obtain⟨_,vs,h2,h3⟩:=R.c.cell n c a hc ha hl;split at e
 ·rename_i hk;obtain⟨j,e2,e⟩:=aO e;obtain⟨m,e3,rfl⟩:=aP e;rw[fL e2]at bi;have hk:=hk;rw[hk]at h2;refine Fy ah s σ H _ _ v ov iv u Q I ro ri rv ⟨a,vs,j,m,rfl,aG.mp bi,h2,by rw[<-h3.length];exact e3,k _ F (R.put hc hl ha aA (h3.set bv m)) (Gr.refl _)⟩
 ·rename_i t ks hk;have hk:=hk;obtain⟨kk,e2,e⟩:=aO e;obtain⟨hz,rfl⟩:=aE e;rw[hk]at h2;cases t with
  | false =>
   obtain⟨kvs,g1,g2,g3⟩:=h2;obtain⟨j,rfl,rfl⟩:=mq e2 bi;rw[<-g3]at h3;obtain⟨mQ,vj,p1,p2,p3⟩:=FY (j:=j) bv h3;have eW:kvs.length<sizeLine:=by
    have:ks.length=kvs.length:=by grind
    exact cj (by grind) (dY (aF _))
   rw[g2]at p1;refine Pc ah s σ H _ _ v ov iv u Q I ro ri rv ⟨a,kvs,j,rfl,rfl,g1,eW,k _ F ?_ (Gr.refl _)⟩;simp only[p1];exact R.put hc hl ha ⟨_,aA,p2,rfl⟩ p3
  | true =>
   obtain⟨xs,g1,g2,g3,g4⟩:=h2;obtain⟨cc,rfl,NQ⟩:=jB e2 bi;refine Pd (by lia) ah s σ H _ _ v ov iv u Q I ro ri rv ⟨a,cc,xs,kk,rfl,rfl,g1,λz hz=>ek R.sub (g2 z hz),ek R.sub NQ,(by
    have:ks.length=xs.length:=by grind
    exact cj (by grind) (dY (aF _))),λr hr=>?_⟩
   obtain⟨mQ,vj,wM,p1,p2,p3,p4,p5⟩:=FZ bv hr NQ g2 h3 g4;rw[g3]at p1;refine k _ F ?_ (Gr.refl _);simp only[p1];exact R.put hc hl ha ⟨_,aA,p3,p2,p5⟩ p4
 ·cases e
def Py(fv fo fi:Gx PV):Gx dB:=bnd fv λv=>bnd fo λo=>bnd fi λi=>stp (nH o i v)
def UB(hu:X.A.units+1150<cLine)(he:PE X e (tE X af ag fv))(ho:PE X o (tE X af ag fo))(hi:PE X k (tE X af ag fi))
  (ha:∀v,assign (.Subscript o k Dv) X.env v=(do
   let ov <-holding [v] (eval o X.env)
   let iv <-holding [v,ov] (eval k X.env)
   standAt Dv
   holding [v,ov,iv] (setItem ov iv v)
   release [v,ov,iv] []))
  (hs:swapsWithSole [.Subscript o k Dv] e pos.line X.env=pure false) (hw:swappedStores [.Subscript o k Dv] e X.env=pure none):PS X (.Assign [.Subscript o k Dv] e pos) (tS X af ag (Py fv fo fi)) :=
 (Fd he (N2 ho hi (UA hu) ha) hs hw rfl).imp λD σ H ⟨F,st,R,h⟩=>⟨F,st,R,h.bnd λpv v F1 st1 H1 R1 g1 b1 h1=>⟨F1,st1,R1,h1.bnd λpo o F2 dG H2 R2 g2 b2 h2=>⟨F2,dG,R2,h2.bnd λpi i F3 wJ H3 R3 g3 b3 h3=>by
  obtain⟨st',e,z⟩:=h3.stp;exact⟨af,ag,F3,wJ,σ,po,pi,pv,st',e,R3,b2.mono g3,b3,b1.mono (g2.trans g3),λH' F' R' g'=>z F' σ H' R' g'⟩⟩⟩⟩
def Kx(t:Bool):Gx PV:=jy ⟨.eQ t [],[]⟩
def UC(t:Bool):PE X (.Dict [] [] pos) (tE X af ag (Kx t)):=by
 cases t with
 | false=>exact F6.imp (by rintro σ H Q ⟨F,st,R,h⟩ p hp;exact Tx.jy h R hp ⟨[],aA,rfl,rfl⟩ .nil)
 | true=>exact JP.imp (by rintro σ H Q ⟨F,st,R,h⟩ p hp;exact Tx.jy h R hp ⟨[],aA,(λ_ z=>nomatch z),rfl,.nil⟩ .nil)
end
def BU(K:W.Frag)(mg:Str->Option Value)(P:Params)(T:Str)(rows:List (Str×Str)):Prop :=
 ∃a es n,mg T=some (.ref a)/\K.lookup a=some ⟨.type "dict",none,.dict es n,#[]⟩/\W.KeysLit P es.toList/\∀k fn,rows.lookup k=some fn->∃f,W.nsIn K a k=some (some (.ref f))/\mg fn=some (.ref f)/\W.nsIn K mainGlobals fn=some (some (.ref f))
def vD(K:W.Frag)(mg:Str->Option Value)(P:Params)(T:Str)(rows:List (Str×PV)):Prop :=
 ∃a es n,(a==sysModules)=false/\mg T=some (.ref a)/\K.lookup a=some ⟨.type "dict",none,.dict es n,#[]⟩/\W.KeysLit P es.toList/\∀k p,rows.lookup k=some p->∃u v,W.nsIn K a k=some (some u)/\RelV v u/\∀F,bj K F p v
def YV(K:W.Frag)(a:Addr):R2:=λx y H Q=>∃k u v,x=.ref a/\y=.str k/\W.nsIn K a k=some (some u)/\RelV v u/\Q v H
noncomputable def Pz:PV->Option Str | .str x=>some x | _=>none
def tM(h:Pz p=some i):p=.str i:=by
 cases p<;>first | (cases h;rfl) | cases h
section
variable {X:Cx} {af:Hp} {ag:Fz} {e ke:Expr} {es:List Expr} {fk fe ff:Gx PV} {ts:Gx (List PV)} {pos p sp:Pos} {T:Str}
def GB{es:Array DictEntry}(hl:X.K.lookup a=some ⟨.type "dict",none,.dict es n,#[]⟩)(hk:W.KeysLit X.w.params es.toList):RL X (YV X.K a):=by
 rintro value slice ah s σ H x y v u Q I rx ry ⟨k,u',v',ex,ey,e,rv,q⟩ hs
 subst ex ey;cases rx;obtain⟨t,rfl⟩:=ry;have hm:=W.mapOf_K (prog:=X.prog) I.og hl hk;exact nj hm.typeIs slot_dict_getitem.lookup (wpAny_getItem_of (strKind_is X.prog X.w k t) hm (W.find_K hl e) ⟨v',H,I.tok _,rv,q⟩) hs
def DC(kZ:Str->Option PV)(fk:Gx PV):Gx PV:=bnd fk λq=>jT ((Pz q).bind kZ)
def UD(ht:vD X.K X.mg X.w.params T rows)(hg:Gl X T)(hk:PE X ke (tE X af ag fk))(hs:lR ke)(zO:(T==("__debug__":Str))=false):PE X (.Subscript (.Name T p) ke sp) (tE X af ag (DC (λk=>rows.lookup k) fk)):=by
 obtain⟨a,RI,n,_,t1,t2,t3,t4⟩:=ht;refine(Fx (GB t2 t3) (u0 (v:=.ref a) hg t1 rfl zO) hk hs).imp λσ H Q ⟨F,st,R,h⟩=>?_
 refine⟨F,st,R,h.bnd λpk v F1 st1 H1 R1 g1 b1 h1=>?_⟩
 obtain⟨q,e1,z⟩:=h1.jT;obtain⟨k,e2,e3⟩:=aO e1;rw[tM e2]at b1;obtain⟨u,w,n1,n2,n3⟩:=t4 k q e3;exact⟨k,u,w,rfl,bN.mp b1,n1,n2,z _ H1 F1 R1 (Gr.refl _) (n3 F1)⟩
def UE(ht:BU X.K X.mg X.w.params T rows)(hg:Gl X T)(hk:PE X ke (tE X af ag fk))(hs:lR ke)(zO:(T==("__debug__":Str))=false):PE X (.Subscript (.Name T p) ke sp) (tE X af ag (DC (λk=>(rows.lookup k).map .fn) fk)):=by
 obtain⟨a,RI,n,t1,t2,t3,t4⟩:=ht;refine(Fx (GB t2 t3) (u0 (v:=.ref a) hg t1 rfl zO) hk hs).imp λσ H Q ⟨F,st,R,h⟩=>?_
 refine⟨F,st,R,h.bnd λpk v F1 st1 H1 R1 g1 b1 h1=>?_⟩
 obtain⟨q,e1,z⟩:=h1.jT;obtain⟨k,e2,e3⟩:=aO e1;obtain⟨fn,e4,rfl⟩:=aP e3;rw[tM e2]at b1;obtain⟨f,n1,n2,n3⟩:=t4 k fn e4;exact⟨k,.ref f,.ref f,rfl,bN.mp b1,n1,rfl,z _ H1 F1 R1 (Gr.refl _) (qz.mpr ⟨f,rfl,n3⟩)⟩
def ML(X:Cx)(fns:List (Str×Nat))(call:Str->jW):Prop:=∀x n,fns.lookup x=some n->∃k f fd ps,FnOk X.prog X.w X.K X.mg X.base (ij X.prog X.w) k f fd ps (tJ X.K n (call x))/\c7 k X.A/\X.mg x=some (.ref f)/\W.keepIn X.K (.ref f)=true/\cL X.K fd ps []
noncomputable def WU:PV->Option Str | .fn x=>some x | _=>none
def GD{p:PV}(h:WU p=some i):p=.fn i:=by
 cases p<;>first | (cases h;rfl) | cases h
def BV(fns:List (Str×Nat))(call:Str->jW)(ff:Gx PV)(ts:Gx (List PV)):Gx PV:=bnd ff λq=>bnd (jT ((WU q).bind λx=>(fns.lookup x).map λn=>(x,n))) λx=>MK x.2 (call x.1) ts
def vE(v k:Expr)(sp:Pos)(args:List Expr)(pos:Pos)(env:Env):eval (.Call (.Subscript v k sp) args [] pos) env=(do callWith pos (<-eval (.Subscript v k sp) env) [] (backTo pos (starEach args env)) (backToKw pos (keywordEach [] env))):=rfl
def Ky{call:Str->jW}(SA:ML X fns call)(Mt:∀x a,W.nsIn X.K mainGlobals x=some (some (.ref a))->X.mg x=some (.ref a))(hf:PE X (.Subscript v k sp) (tE X af ag ff))(ha:PA X (e::es) (tA X af ag ts))
  (he:starEach (e::es) X.env=(false,eval e X.env)::starEach es X.env) (qa:(backTo pos (starEach es X.env)).any (·.1)=false):PE X (.Call (.Subscript v k sp) (e::es) [] pos) (tE X af ag (BV fns call ff ts)):=by
 rintro ah s σ H Q I ⟨F,st,R,h⟩
 rw[vE];refine ai (thn (hf ah s σ H (λv H1=>∃F1 st1 q,Rep X.K af ag F1 st1 σ H1/\bj X.K F1 q v/\Tx X af ag (bj X.K) F1 st1 (bnd (jT ((WU q).bind λx=>(fns.lookup x).map λn=>(x,n))) λx=>MK x.2 (call x.1) ts) σ Q) I
  ⟨F,st,R,h.bnd λq v F1 st1 H1 R1 g1 b1 h1=>⟨F1,st1,q,R1,b1,h1⟩⟩) λu s1 ⟨x,H1,I1,rx,F1,st1,q,R1,b1,h1⟩=>?_)
 obtain⟨⟨y,n⟩,e1,z⟩:=At.jT (At.bnd h1);obtain⟨y',e2,e3⟩:=aO e1;obtain⟨n',e4,e5⟩:=aP e3;simp only[jl]at e5;obtain⟨rfl,rfl⟩:=e5;rw[GD e2]at b1;obtain⟨a,rfl,TY⟩:=qz.mp b1;obtain⟨j,f',fd,ps,G,hr,m1,m2,m3⟩:=SA _ _ e4;have:=aX ((Mt _ a TY).symm.trans m1);cases this;cases rx;exact W.callWith_K I.ok.mod.kin m2 (thn (ha pos ah s1 σ H1 (λvs H2=>∃F2 dG as,Rep X.K af ag F2 dG σ H2/\ay X.K F2 as vs/\Tx X af ag (bj X.K) F2 dG (jE _ _ as) σ Q) I1
  ⟨F1,st1,R1,Tx.bnd z λas vs F2 dG H2 R2 g2 b2 h2=>⟨F2,dG,as,R2,b2,h2⟩⟩) (by rintro us s2 ⟨vs,H2,I2,r,F2,dG,as,R2,b2,z⟩;exact⟨I2.og,Ux G hr m3 _ _ _ _ _ _ _ _ _ _ _ _ I2 R2 b2 r z⟩)) he qa
noncomputable def xP(f:Str):List Str->List PV->Option PV
 | g::ns,p::ps=>if g=f then some p else xP f ns ps
 | _,_=>none
def Kz(f:Str)(fe:Gx PV):Gx PV:=bnd fe λp=>hp λh=>match cS h p with
 | some (.ins _ ns,ps)=>xP f ns ps
 | _=>none
theorem qL{K:W.Frag}:∀{fs:List (Str×V)} {ps:List PV} {p:PV},xP f (fs.map (·.1)) ps=some p->ay K F ps (fs.map (·.2))->f∈fs.map (·.1)/\∃v,fs.lookup f=some v/\bj K F p v
 | [],_,_,h,_=>by cases h
 | (g,v)::r,[],_,h,_=>by cases h
 | (g,v)::r,q::ps,p,h,b=>by
  obtain⟨v',w,e,b1,b2⟩:=b.bV;cases e;have h:(if g=f then some q else xP f (r.map (·.1)) ps)=some p:=h
  by_cases hg:g=f
  ·grind
  ·rw[if_neg hg]at h;obtain⟨h1,v2,h2,h3⟩:=qL h b2;have hgf:(f==g)=false:=by grind
   exact⟨cG _ h1,v2,by grind,h3⟩
def UG(he:PE X e (tE X af ag fe))(hb:attributeBase e f X.env (eval e X.env)=eval e X.env):PE X (.Attribute e f pos) (tE X af ag (Kz f fe)):=(Ol he hb).imp λσ H Q ⟨F,st,R,h⟩=>⟨F,st,R,h.bnd λq v F1 st1 H1 R1 g1 b1 h1=>by
 obtain⟨o,e,z⟩:=h1.hp;split at e
 ·rename_i C ns ps hd;obtain⟨a,vs,rfl,⟨Ca,dx,fs,h2,h3,h4,h5,h6,h7⟩,h8⟩:=R1.at hd b1;subst h6 h7;obtain⟨hm,w,hl,bw⟩:=qL e h8;exact⟨a,Ca,dx,fs,w,rfl,h5,h3,h4 f hm,hl,z _ H1 F1 R1 (Gr.refl _) bw⟩
 ·cases e⟩
noncomputable def ja(f:Str)(q:PV):List Str->List PV->List Str×List PV
 | g::ns,p::ps=>if g=f then(g::ns,q::ps)else(g::(ja f q ns ps).1,p::(ja f q ns ps).2)
 | _,_=>([f],[q])
theorem BW{K:W.Frag}(bq:bj K F q v):∀{fs:List (Str×V)} {ps:List PV},ay K F ps (fs.map (·.2))->(gS f v fs).map (·.1)=(ja f q (fs.map (·.1)) ps).1/\ay K F (ja f q (fs.map (·.1)) ps).2 ((gS f v fs).map (·.2))/\∀g∈(ja f q (fs.map (·.1)) ps).1,g=f\/g∈fs.map (·.1)
 | [],ps,b=>by
  have e:=uq b.length;subst e;exact⟨rfl,.cons bq .nil,λg hg=>.inl (by simpa[ja]using hg)⟩
 | (g,w)::r,[],b=>by have:=b.length;simp at this
 | (g,w)::r,p::ps,b=>by
  obtain⟨v',w',e,b1,b2⟩:=b.bV;cases e;obtain⟨h1,h2,h3⟩:=BW bq b2;by_cases hg:g=f
  ·subst hg;have e1:gS g v ((g,w)::r)=(g,v)::r:=if_pos rfl;have e2:ja g q (((g,w)::r).map (·.1)) (p::ps)=(g::r.map (·.1),q::ps):=if_pos rfl;rw[e1,e2];exact⟨rfl,.cons bq b2,λy hy=>.inr hy⟩
  ·have e1:gS f v ((g,w)::r)=(g,w)::gS f v r:=if_neg hg;have e2:ja f q (((g,w)::r).map (·.1)) (p::ps)=(g::(ja f q (r.map (·.1)) ps).1,p::(ja f q (r.map (·.1)) ps).2):=if_neg hg;rw[e1,e2];refine⟨by rw[aQ,h1],.cons b1 h2,λy hy=>?_⟩
   rcases aC.mp hy with rfl | hy
   ·grind
   ·grind
def xQ(K:W.Frag)(cls:List Str)(flds:List Str):Prop:=∀C,cls.contains C=true->∃Ca,ClsAt K C (.ref Ca)/\rY K Ca/\∀f,flds.contains f=true->gD K Ca f
def ee(cls flds:List Str)(f:Str)(po pv:PV):bY->Option bY:=λst=>(i9 st.h po).bind λc=>match c.2.k with
 | .ins C ns=>if(cls.contains C&&flds.contains f&&decide (ns.length<900))=true then some ⟨st.ρ,st.h.set c.1 ⟨.ins C (ja f pv ns c.2.ps).1,(ja f pv ns c.2.ps).2⟩⟩else none
 | _=>none
def KA(cls flds:List Str)(f:Str)(fv fo:Gx PV):Gx dB:=bnd fv λv=>bnd fo λo=>stp (ee cls flds f o v)
theorem eu{cls flds:List Str}(hc:xQ X.K cls flds){po pv:PV}{o v:V}{F F1:Fz}{st st':bY}(R:Rep X.K af ag F st σ H)(b2:bj X.K F1 po o)(g:Gr F1 F)(b1:bj X.K F pv v)(e:ee cls flds f po pv st=some st') :
  ∃a Ca dx fs,o=.ref a/\H a=some (.ins Ca dx fs)/\rY X.K Ca/\gD X.K Ca f/\fs.length<900/\Rep X.K af ag F st' σ (cU H a (.ins Ca dx (gS f v fs)))/\∀n c C ns,i9 st.h po=some (n,c)->c.k=.ins C ns->ClsAt X.K C (.ref Ca):=by
  obtain⟨⟨n,c⟩,e1,e0⟩:=aO e;clear e;have e:=e0;clear e0;obtain⟨rfl,Em,hl⟩:=gw e1;obtain⟨a,ha,rfl⟩:=dm.mp (b2.mono g);obtain⟨_,vs,g2',g3⟩:=R.c.cell n c a Em ha hl;split at e
  ·rename_i C ns hk;obtain⟨hq,rfl⟩:=aE e;rw[aJ,aJ]at hq;rw[hk]at g2';obtain⟨Ca,dx,fs,k1,k2,k3,k4,rfl,rfl⟩:=g2';obtain⟨Cb,m1,m2,m3⟩:=hc C hq.1.1;have eC:Ca=Cb:=by
    have:=k1.symm.trans m1;cases this;rfl
   subst eC;have dX:=iy hq.2;rw[aU]at dX;obtain⟨p1,p2,p3⟩:=BW b1 g3;refine⟨a,Ca,dx,fs,rfl,k4,k2,m3 f hq.1.2,dX,R.put Em hl ha ⟨Ca,dx,_,k1,k2,λg hg=>?_,aA,p1,rfl⟩ p2,λn c C ns h1 h2=>?_⟩
   ·rcases p3 g hg with rfl | hg
    ·exact m3 _ hq.1.2
    ·exact k3 g hg
   ·cases e1.symm.trans h1;cases hk.symm.trans h2;exact k1
  ·cases e
def UH{cls flds:List Str}(hc:xQ X.K cls flds)(ho:PE X o (tE X af ag fo))(he:PE X e (tE X af ag fv))(hs:swapsWith e (some (.Attribute o f oh)) pos.line X.env=pure false):PS X (.Assign [.Attribute o f oh] e pos) (tS X af ag (KA cls flds f fv fo)) :=
 (Om ho he hs).imp λD σ H ⟨F,st,R,h⟩=>⟨F,st,R,h.bnd λpv v F1 st1 H1 R1 g1 b1 h1=>⟨F1,st1,R1,h1.bnd λpo o F2 dG H2 R2 g2 b2 h2=>by
  obtain⟨st',e,z⟩:=h2.stp;obtain⟨a,Ca,dx,fs,k1,k2,k3,k4,k5,k6,_⟩:=eu hc R2 b2 (Gr.refl _) (b1.mono g2) e;exact⟨a,Ca,dx,fs,k1,k2,k3,k4,Nat.le_add_left_of_le k5,z F2 σ _ k6 (Gr.refl _)⟩⟩⟩
end
def YW(X:Cx)(af:Hp)(ag:Fz)(fa:Addr)(ω:PV->Gx PV):Prop:=∀(H:Hp) (F:Fz) (st:bY) (σ:St) (ah:List (Addr×Obj)) (s:Shared) (Q:VK) (p:PV) (u:Value) (v:V),Inv X ah σ H s->Rep X.K af ag F st σ H->bj X.K F p v->RelV v u->Tx X af ag (bj X.K) F st (ω p) σ Q ->
 wpAny (model X.prog X.w) X.A (call (.ref fa) [u]) (EP X ah σ Q) X.xe s
structure GF (X:Cx) (af:Hp) (ag:Fz) (n:Nat) (ω:PV->Gx PV):Prop where
 ex:∃fa o u YX,ag.μ[n]?=some fa/\X.af fa=some (.wU o u)/\o.data=.func YX/\YW X af ag fa ω
structure UI (X:Cx):Prop where
 ex:∃x c T,x∈dI/\W.tabIn X.K x=some (c,T)/\W.codeHdIn X.K c T=true/\X.env.code=.ref c/\X.env.qual++"<lambda>"=Jf x
 blt:FE X.mg X.base
section
variable {X:Cx} {af:Hp} {ag:Fz} {e o:Expr} {fe fo:Gx PV} {pos p GG zp ap cp:Pos}
def MM(h:starEach [e] X.env=(false,eval e X.env)::starEach [] X.env)(hq:wpAny M A (eval e X.env) (λv s1=>Q [v] s1) E s):wpAny M A (spliced (backTo pos (starEach [e] X.env))) Q E s:=by
 rw[h];exact Calls.spliced_cons (thn hq λv s1 q=>Calls.spliced_nil q)
end
end L2.U
namespace PySem
open PyProof.Rows
namespace F
def eY:entryFor table "dict.update.loop"=some Builtin.«dict.update.loop» := entryFor_of_tree (by kernel_rfl)
def cy:plainId "dict.update.loop"=true:=by decide +kernel
end F
section
variable {prog:Program} {w:World} {K:Type} [DecidableEq K] {knd:KeyKind prog w K} {A:Around} {R:Result->Shared->Prop} {I:Addr} {fp wr:List Addr} {G:Array GenState->Array GenState->Prop} {n:Nat} {P:Nat->Value->Prop} {St:Nat->Shared->Prop}
def xR(h:Heap)(b:Addr)(key v:Value):Prop:=∃o m,h.get? b=some o/\o.cls=.type "tuple"/\o.data=.seq #[key,v] m
def oB(hp:xR s.heap b key v)(h:Q [key,v] s):wpAny (model prog w) A (Builtin.Dict.pairItems (.ref b)) Q E s:=by
 obtain⟨o,m,h1,h2,h3⟩:=hp;unfold Builtin.Dict.pairItems;refine ai (nc ⟨o,h1,h2⟩ ?_);rw[if_pos (by decide)]
 refine ai ?_;unfold seqItems?;obtain⟨ac1,aa4,aa5,YY⟩:=o;simp only at h2 h3;subst h2 h3
 wp_walk
 exact h
def DD(W:WalksS prog w A.in1 I fp wr G n P St)(S:Addr)(hSf:S∉fp)(hl:kvs.length=n)(hn:n<=sizeLine){s₀:Shared}
  (PC:∀i v,P i v->∃b k key u,v=.ref b/\kvs[i]?=some (k,u)/\knd.is k key=true/\b∉S::wr/\xR s₀.heap b key u) :
  ∀(c i:Nat) (s:Shared),n-i=c->i<=n->St i s->(∀b o,b∉S::wr->s₀.heap.get? b=some o->s.heap.get? b=some o)->s.heap.DictOf knd S (merged [] (kvs.take i)) ->
   (∀s',Moved (S::wr) G s s'->s'.heap.DictOf knd S (merged [] kvs)->R (.ok (.ret .none)) s') ->
   codeAny (model prog w) A (.builtin "dict.update.loop" ⟨[.ref S,.ref I,rawInt (i:Int),.none],[]⟩) R s:=by
 have hSw:S∉wr:=λh=>hSf (W.sub _ h)
 have Kn:∀b∈wr,b∈S::wr:=by grind
 intro c;induction c with
 | zero =>
  intro i s hk hi rS ho hS hR;have MN:i=n:=by lia
  subst MN;refine uK F.eY ?_;rw[uA F.cy _];refine ai (W.done s _ _ rS λs' hm=>?_)
  refine ai (ar ?_);rw[yY (jo ‹_›)]at hS;refine ar (hR s' (hm.mono Kn) ?_);obtain⟨o,es,ep,h1,r⟩:=hS;exact⟨o,es,ep,hm.heap S _ hSw h1,r⟩
 | succ c ih =>
  intro i s hk hi rS ho hS hR;have oX:i<n:=by lia
  refine uK F.eY ?_;rw[uA F.cy _];refine ai (W.item i s _ _ oX rS λv s' hP PD hm=>?_)
  obtain⟨b,k,key,u,rfl,hki,Oj,hbn,UJ⟩:=PC i v hP;have mP:∀b o,b∉S::wr->s₀.heap.get? b=some o->s'.heap.get? b=some o:=λb o hb e=>hm.heap b o (λz=>hb (cG _ z)) (ho b o hb e)
  refine ai (dU ?_);refine ai (wpAny_tryCatch (oB (by
   obtain⟨o,m,h1,r⟩:=UJ;exact⟨o,m,mP b o hbn h1,r⟩) ?_))
  refine dU ?_;have hsz:(merged [] (kvs.take i)).length<=sizeLine:=by
   have:=merged_length_le ([]:List (K×Value)) (kvs.take i);rw[kN]at this;simp at this
   lia
  refine wpAny_dictSet_pairs Oj (by
   obtain⟨o,es,ep,h1,r⟩:=hS;exact⟨o,es,ep,hm.heap S _ hSw h1,r⟩) λh' hd YZ=>?_
  rw[<-merged_take_succ _ _ _ _ hki]at hd;have Y0:∀b o,b∉S::wr->s₀.heap.get? b=some o->h'.get? b=some o:=λb o hb e=>(YZ.2 b (λh:b=S=>hb (by grind))).trans (mP b o hb e)
  refine ar ⟨uR F.cy _,ih (i+1) _ (by lia) oX (W.frame _ s' _ _ PD (zo ..) λb hb o e=>?_) Y0 hd λS5 Y1 Y2=>?_⟩
  ·exact(YZ.2 b (λh:b=S=>hSf (by grind))).trans e
  ·refine hR S5 (Moved.trans W.gtrans ((hm.mono Kn).then_heap (zo ..) λb o hb e=>?_) Y1) Y2
   exact(YZ.2 b (λh:b=S=>hb (by grind))).trans e
end
namespace F
theorem vF:typeLookup (.type "list") "keys"=pure none:=by rw[zA,yZ];kernel_rfl
end F
section
variable {prog:Program} {w:World} {A:Around} {E:Value->Shared->Prop} {s:Shared} {a:Addr} {o:Obj} {xs:Array Value} {k:Nat} {Q:Option Value->Shared->Prop}
theorem qM(hx:s.heap.get? a=some o)(hc:o.cls=.type "list")(Af:o.data=.seq xs k)(hd:o.dict=none)(hA:A.handled=none)
  (h:∀h' tk,(∀b ob,s.heap.get? b=some ob->h'.get? b=some ob)->Q none {s with heap:=h',toks:=tk}) :
  wpAny (model prog w) A (getAttr? (.ref a) "keys") Q E s:=by
 obtain⟨c,MO,dat,sl⟩:=o;simp only at hc Af hd;subst hc Af hd;obtain⟨hp,g,d,tk,os⟩:=s;have hT:∀WV,(⟨hp,g,d,WV,os⟩:Shared).TypeIs (.ref a) "list":=λ_=>⟨_,hx,rfl⟩
 have f1:=sub_AttributeError;have f3:=yR.lookup;have f4:=yR.bind (.ref a);have f5:=am_list_getattr_none;unfold getAttr? getAttrBy? getAttrBy
 repeat (any_goals (first | assumption | exact hT _ | ((with_reducible show wpAny _ _ (call (Value.builtin "list.__getattribute__") _ _) _ _ _);refine gf yR (hT _) am_entry_list_getattribute (F.args_list_getattribute_2 _ _) (meets_getattribute_miss_list a xs k sl "keys" _ F.vF (by decide +kernel) (by decide +kernel)) ⟨hx,hA,λh' WV e Aj=>?_⟩) | wp_step))
 obtain⟨t',u',he⟩:=Aj.there;show wpAny _ _ (getattributeRaised _ _ _ _ _ _ _) _ _ _;unfold getattributeRaised
 repeat (any_goals (first | assumption | wp_step))
 exact h _ _ Aj.keeps
end
section
variable {prog:Program} {w:World} {A:Around} {E:Value->Shared->Prop} {s:Shared} {K:Type} [DecidableEq K] {knd:KeyKind prog w K}
theorem xS{l:Addr}{ol:Obj}{items:Array Value}{m:Nat}{kvs:List (K×Value)}{Q:Value->Shared->Prop}(hh:A.handled=none)(hx:s.heap.get? l=some ol)(hc:ol.cls=.type "list")(Af:ol.data=.seq items m)(Y3:ol.dict=none)
  (hi:∀(i:Nat) (v:Value),items[i]?=some v->∃b k key u,v=.ref b/\kvs[i]?=some (k,u)/\knd.is k key=true/\xR s.heap b key u) (hlk:kvs.length=items.size) (hb:items.size<=sizeLine)
  (h:∀(h':Heap) (tk:Nat),h'.DictOf knd s.heap.objs.size (merged [] kvs)->(∀b o,b<s.heap.objs.size->s.heap.get? b=some o->h'.get? b=some o)->Q (.ref s.heap.objs.size) {s with heap:=h',toks:=tk}) :
  wpAny (model prog w) A (call (.type "dict") [.ref l]) Q E s:=by
 refine callType_codes (Q₁:=λobj s₁=>obj=.ref s.heap.objs.size/\s₁={s with heap:=s.heap.push {cls:=.type "dict",data:=.dict #[]}}) F.kt_called_dict (F.kt_typeCall_dict_1 _) F.entry_dict_init (kt_code_dict_new _ ⟨rfl,rfl⟩) ?_
 rintro obj s₁ ⟨rfl,rfl⟩
 have qN:(s.heap.push {cls:=.type "dict",data:=.dict #[]}).DictOf knd s.heap.objs.size []:=Heap.DictOf.new s.heap
 have Aj:(s.heap.push {cls:=.type "dict",data:=.dict #[]}).get? l=some ol:=aK _ hx
 have hlS:l<s.heap.objs.size:=aH hx;refine⟨qN.typeIs,F.args_dict_init_2 _ _,?_⟩;unfold Builtin.«dict.__init__»;refine ai ?_;unfold Builtin.Dict.selfAndRest;refine ai (wpAny_notOrdered_dict qN.typeIs ?_);show wpAny _ _ (pure (s.heap.objs.size,[Value.ref l])) _ _ _;refine ar ?_;show wpAny _ _ (Builtin.Dict.updateFrom "dict.__init__" s.heap.objs.size (.ref l) [] .none) _ _ _;unfold Builtin.Dict.updateFrom;refine ai (nc (T:="list") ⟨ol,Aj,hc⟩ ?_);rw[if_pos (by decide)]
 refine ai (qM Aj hc Af Y3 (by simp[hh]) λh2 tk2 kp=>?_)
 rw[if_pos (show(none:Option Value).isNone=true from rfl)]
 have hx2:h2.get? l=some ol:=kp l ol Aj;have MP:h2.DictOf knd s.heap.objs.size []:=by
  obtain⟨o,es,ep,h1,r⟩:=qN;exact⟨o,es,ep,kp _ _ h1,r⟩
 have ht2:h2.IsList l items:=⟨ol,hx2,hc,m,Af⟩;refine ai (iB ?_);refine ai ?_;refine zi ht2 ?_;refine ar ⟨uR F.cy _,?_⟩;have WW:s.heap.objs.size<h2.objs.size:=by
  obtain⟨o,_,_,h1,_⟩:=MP;exact aH h1
 have Y4:l≠h2.objs.size:=bC (jm hlS WW);have hSf:s.heap.objs.size∉[h2.objs.size,l]:=by
  simp only[aC,bB,bD,not_or];exact⟨bC WW,pS hlS⟩
 have PF:A.in1.in1.handled=none:=by simp[hh]
 have PC:∀(i:Nat) (v:Value),items[i]?=some v->∃b k key u,v=.ref b/\kvs[i]?=some (k,u)/\knd.is k key=true/\b∉[s.heap.objs.size,h2.objs.size]/\xR s.heap b key u:=λi v hv=>by
  obtain⟨b,k,key,u,e1,e2,e3,e4⟩:=hi i v hv;refine⟨b,k,key,u,e1,e2,e3,?_,e4⟩;obtain⟨o,_,ho,_⟩:=e4;have:=aH ho;simp only[aC,bB,bD,not_or];exact⟨bC this,bC (jm this WW)⟩
 refine DD (knd:=knd) (s₀:=s) ((Walks.list PF h2.objs.size l Y4 items).toS) s.heap.objs.size hSf hlk hb PC (items.size-0) 0 _ (by lia) (iA _) ⟨⟨_,bL _ rfl,rfl,rfl⟩,ht2.push _⟩ (λb o _ e=>aK _ (kp _ _ (aK _ e))) ?_ ?_
 ·obtain⟨o,es,ep,h1,r⟩:=MP;exact⟨o,es,ep,aK _ h1,r⟩
 ·intro s' hm MQ;obtain⟨h',g',d',WV,S2⟩:=s';have eg:g'=s.gens:=hm.gens;have ed:d'=s.drawn:=hm.drawn;have eo:S2=s.os:=hm.os;subst eg;subst ed;subst eo;refine⟨rfl,h h' WV MQ λb o hb e=>?_⟩
  refine hm.heap b o ?_ (aK _ (kp _ _ (aK _ e)));simp only[aC,bB,bD,not_or];exact⟨bC hb,bC (jm hb WW)⟩
end
end PySem
namespace L2.U
open PySem PySem.Spec PyProof.Rows
section
variable {X:Cx} {a b:Expr} {ta tb:TE} {p cp bp:Pos}
def nS(K:W.Frag)(H:Hp):List V->List (bQ×V)->Prop:=Paired λv kv=>∃c,v=.ref c/\iC K H c [kV kv.1,kv.2]
def iI(kvs:List (bQ×V)):List (bQ×V):=kvs.foldl (λacc kv=>putK acc kv.1 kv.2) []
theorem xT:∀{kvs:List (bQ×V)} {vs:List (bQ×Value)} {acc:List (bQ×V)} {UK:List (bQ×Value)},L2.KV kvs vs->L2.KV acc UK->L2.KV (kvs.foldl (λacc kv=>putK acc kv.1 kv.2) acc) (vs.foldl (λacc kv=>stored acc kv.1 kv.2) UK)
 | _,_,_,_,.nil,h=>h
 | _,_,_,_,.cons (a:=x) r t,h=>by
  have h2:=h.put x.1 r.2;rw[kR,kR];rw[r.1]at h2 ⊢;exact xT (t) h2
def GH(f:List (bQ×V)):∀acc:List (bQ×V),(f.foldl (λacc kv=>putK acc kv.1 kv.2) acc).length<=acc.length+f.length:=by
 induction f with
 | nil=>intro acc;simp
 | cons x f ih =>
  intro acc;have:=ih (putK acc x.1 x.2);have:=BF acc x.1 x.2;rw[kR,cq]
  lia
theorem BX(I:Inv X ah σ H s):∀{vs:List V} {kvs:List (bQ×V)},nS X.K H vs kvs->∀{us:List Value},Vals vs us->∃KC:List (bQ×Value),L2.KV kvs KC/\KC.length=us.length/\∀(i:Nat) (u:Value),us[i]?=some u->∃b k key w,u=.ref b/\KC[i]?=some (k,w)/\(dj X.prog X.w).is k key=true/\xR s.heap b key w
 | _,_,.nil,us,r=>by
  cases r;exact⟨[],.nil,rfl,λi u h=>by cases h⟩
 | _,_,.cons (b:=kv) q t,us,r=>by
  cases r with
  | cons r1 r2 =>
   obtain⟨KC,g1,g2,g3⟩:=BX I t r2;obtain⟨c,rfl,hs⟩:=q;obtain⟨ax,rr,⟨o,h1,h2,n,h3⟩,_⟩:=I.tuple hs;obtain⟨key,w,e,hk,hw⟩:=rr.two;subst e;cases r1;refine⟨(kv.1,w)::KC,.cons ⟨rfl,hw⟩ g1,by rw[cq,cq,g2],λi u hu=>?_⟩
   cases i with
   | zero =>
    cases hu;exact⟨c,kv.1,key,w,rfl,rfl,qu hk,o,n,h1,h2,h3⟩
   | succ i=>exact g3 i u hu
end
def rDL(K:W.Frag):List V->Hp->VK->Prop:=λxs H Q=>∃a vs kvs,xs=[.ref a]/\iR K H a vs/\vs.length<=1000/\nS K H vs kvs/\∀p,H p=none->Q (.ref p) (cU H p (.dK (iI kvs)))
theorem Ar{X:Cx}(hh:X.A.handled=none):kl X (.type "dict") (rDL X.K):=by
 intro ah s σ H xs us Q I rs ⟨a,vs,kvs,ex,ha,hl,hp,q⟩;subst ex;obtain⟨u,rfl,ru⟩:=km rs;cases ru;obtain⟨ax,n,r,hx,_⟩:=I.lZ ha;obtain⟨KC,g1,g2,g3⟩:=BX I hp r;have aba:1000<=sizeLine:=by decide
 have hil:ax.length<=1000:=by rw[<-r.length];exact hl
 refine xS (knd:=dj X.prog X.w) (items:=ax.toArray) (kvs:=KC) hh hx rfl rfl rfl (λi v hv=>?_) (by rw[g2];simp) (by simp;lia) λh' tk dd kp=>?_
 ·rw[List.getElem?_toArray]at hv;exact g3 i v hv
 ·have RM:L2.KV (iI kvs) (merged [] KC):=xT g1 .nil;refine⟨.ref _,_,I.laid (o:=.dK (iI kvs)) (λb u e=>kp b u (aH e) e) (aF _) ?_,rfl,q _ (I.hok.fresh (aF _))⟩
  refine⟨?_,hZ.mpr (bU (bC (lY I))),_,RM,dd⟩;have:=GH kvs [];have e:kvs.length=KC.length:=m7 g1;unfold iI;simp only[mX]at this
  lia
def KD{X:Cx}{a:Expr}{ta:TE}{p cp:Pos}(hh:X.A.handled=none)(hg:Gl X "dict")(hm:X.mg "dict"=none)(ha:PE X a ta)(hs:starEach [a] X.env=[(false,eval a X.env)]):PE X (.Call (.Name "dict" p) [a] [] cp) (λσ H Q=>ta σ H λx H1=>rDL X.K [x] H1 Q):=by
 intro ah s σ H Q I h;refine Call_ (ld_blt I hg hm (show bootBuiltins "dict"=some (.type "dict") by decide +kernel) (kx (MM hs (thn (ha ah s σ H _ I h) λv s1 ⟨x,H1,I1,r1,q1⟩=>?_)) hs rfl))
 exact Ar hh ah s1 σ H1 [x] [v] Q I1 (.cons r1 .nil) q1
def GI:PV->Option (bQ×PV)
 | .nd .au [k,v]=>(Dr k).map λj=>(j,v)
 | _=>none
def BY:List (bQ×PV)->aj->aj
 | [],c=>c
 | (k,v)::r,c=>match c.k with
  | .eQ t ks=>BY r (iH t (k,[]) v ks c.ps)
  | _=>c
def GJ(ps:List PV):Option aj:=if ps.length<=1000 then(dO GI ps).map λkvs=>BY kvs ⟨.eQ false [],[]⟩else none
section
variable {K:W.Frag} {F:Fz}
theorem xU:∀{ps:List PV} {kvs:List (bQ×PV)} {vs:List V},dO GI ps=some kvs->ay K F ps vs->∃ks:List (bQ×V),nS K F.F vs ks/\ks.map (·.1)=kvs.map (·.1)/\ay K F (kvs.map (·.2)) (ks.map (·.2))
 | [],_,_,h,b=>by
  cases h;rw[b.cx];exact⟨[],.nil,rfl,.nil⟩
 | p::ps,kvs,vs,h,b=>by
  obtain⟨kv,r,h1,h2,rfl⟩:=fK h;obtain⟨v,w,rfl,b1,b2⟩:=b.bV;obtain⟨ks,g1,g2,g3⟩:=xU h2 b2;unfold GI at h1;split at h1
  ·rename_i k q;obtain⟨j,e1,rfl⟩:=aP h1;obtain⟨c,ws,rfl,hs,hb⟩:=bR.mp b1;obtain⟨x,y,rfl,bx,bq⟩:=J4 hb;rw[mn e1 bx]at hs;exact⟨(j,y)::ks,.cons ⟨c,rfl,hs⟩ g1,by rw[aQ,aQ,g2],.cons bq g3⟩
  ·cases h1
theorem BZ:∀{kvs:List (bQ×PV)} {ks:List (bQ×V)} {acc:List (bQ×V)} {ps:List PV},ks.map (·.1)=kvs.map (·.1)->ay K F (kvs.map (·.2)) (ks.map (·.2))->ay K F ps (acc.map (·.2)) ->
  ∃mQ vj,BY kvs ⟨.eQ false (acc.map λy=>(y.1,[])),ps⟩=⟨.eQ false mQ,vj⟩/\(ks.foldl (λacc kv=>putK acc kv.1 kv.2) acc).map (λy=>(y.1,[]))=mQ/\ay K F vj ((ks.foldl (λacc kv=>putK acc kv.1 kv.2) acc).map (·.2))
 | [],ks,acc,ps,h1,h2,h3=>by
  have:=List.map_eq_nil_iff.mp h1;subst this;exact⟨_,_,rfl,rfl,h3⟩
 | (k,q)::kvs,[],acc,ps,h1,h2,h3=>by cases h1
 | (k,q)::kvs,(j,v)::ks,acc,ps,h1,h2,h3=>by
  simp only[aQ,zz]at h1;obtain⟨rfl,h1⟩:=h1;obtain⟨v',w,e,b1,b2⟩:=h2.bV;cases e;obtain⟨mQ,vj,e1,e2,e3⟩:=FY b1 h3;obtain⟨ks2,ps2,e4,e5,e6⟩:=BZ h1 b2 e3;refine⟨ks2,ps2,?_,e5,e6⟩;show BY kvs (iH false (j,[]) q (acc.map λy=>(y.1,[])) ps)=_
  rw[e1,<-e2];exact e4
end
def KH{K:W.Frag}(h:GJ ps=some c)(b:ay K F ps vs):∃ks:List (bQ×V),nS K F.F vs ks/\ps.length<=1000/\∃mQ qs,c=⟨.eQ false mQ,qs⟩/\(iI ks).map (λy=>(y.1,[]))=mQ/\ay K F qs ((iI ks).map (·.2)):=by
 obtain⟨hl,h⟩:=bT h;obtain⟨kvs,h1,rfl⟩:=aP h;obtain⟨ks,g1,g2,g3⟩:=xU h1 b;obtain⟨mQ,vj,e1,e2,e3⟩:=BZ (acc:=[]) g2 g3 .nil;exact⟨ks,g1,hl,mQ,vj,e1,e2,e3⟩
theorem nS.mono{K:W.Frag}(h:cw F G):∀{vs:List V} {ks:List (bQ×V)},nS K F vs ks->nS K G vs ks
 | _,_,.nil=>.nil
 | _,_,.cons ⟨c,e,q⟩ t=>.cons ⟨c,e,cZ h q⟩ (nS.mono h t)
section
variable {X:Cx} {af:Hp} {ag:Fz} {a b e:Expr} {fa fb fe:Gx PV} {p cp bp:Pos}
def KI(fa:Gx PV):Gx PV:=bnd fa λp st=>match p with
 | .nd .lst ps=>(GJ ps).bind λc=>jy c st
 | _=>none
def PH(hh:X.A.handled=none)(hg:Gl X "dict")(hm:X.mg "dict"=none)(ha:PE X a (tE X af ag fa))(hs:starEach [a] X.env=[(false,eval a X.env)]):PE X (.Call (.Name "dict" p) [a] [] cp) (tE X af ag (KI fa)) :=
 (KD hh hg hm ha hs).imp λσ H Q ⟨F,st,R,h⟩=>⟨F,st,R,h.bnd λq v F1 st1 H1 R1 g1 b1 h1=>by
  obtain⟨r,e1,e2⟩:=h1;split at e1
  ·rename_i ps;obtain⟨c,e5,e1⟩:=aO e1;obtain⟨ad,vs,rfl,hs1,hb1⟩:=dA.mp b1;obtain⟨ks,k1,hl,mQ,vj,rfl,e6,e7⟩:=KH e5 hb1;refine⟨ad,vs,ks,rfl,jx R1.sub hs1,by rw[<-hb1.length];exact hl,k1.mono R1.sub,λp hp=>?_⟩
   exact Tx.jy (show Tx X af ag (bj X.K) F1 st1 (jy ⟨.eQ false mQ,vj⟩) σ Q from⟨r,e1,e2⟩) R1 hp ⟨iI ks,aA,e6,rfl⟩ e7
  ·cases e1⟩
end
def xV(m:Nat)(ps:List PV):Gx PV:=λst=>match m with
 | 0=>some (.ok (.lst ps),st)
 | _=>jy ⟨.lst,ps⟩ st
section
variable {X:Cx} {af:Hp} {ag:Fz} {e:Expr} {es:List Expr} {ts:Gx (List PV)} {pos p GG zp:Pos} {m:Nat}
def Tx.xV{st:bY}(h:Tx X af ag (bj X.K) F st (xV m ps) σ Q)(R:Rep X.K af ag F st σ H)(hq:H q=none)(hb:ay X.K F ps vs):Q (.ref q) (cU H q (.lst vs)):=by
 cases m with
 | zero =>
  obtain⟨r,e1,e2⟩:=h;cases e1;obtain⟨R2,s2⟩:=R.laid (.lst vs) hq;exact e2 _ _ _ R2 s2 (dA.mpr ⟨q,vs,rfl,iR.of aA,hb.mono s2⟩)
 | succ m=>exact Tx.jy (h) R hq aA hb
end
section
variable {X:Cx} {af:Hp} {ag:Fz} {e:Expr} {fe:Gx PV} {pos p:Pos} {m:Nat}
def UL(h:List aj)(p q:PV):Option (List PV):=(vo h p).bind λxs=>(vo h q).bind λys=>if xs.length+ys.length<=ic then some (xs++ys)else none
def PJ(m:Nat)(fa fb:Gx PV):Gx PV:=bnd fa λp=>bnd fb λq=>bnd (hp λh=>UL h p q) λl=>xV m l
def Y5(X:Cx)(af:Hp)(ag:Fz)(m:Nat):R2:=λx y H Q=>∃F st σ pa pb l,UL st.h pa pb=some l/\Rep X.K af ag F st σ H/\bj X.K F pa x/\bj X.K F pb y/\Tx X af ag (bj X.K) F st (xV m l) σ Q
def KJ:OpR X (binaryOp .Add) (Y5 X af ag m):=by
 rintro ah s σ H x y v u Q I rx ry ⟨F,st,τ,pa,pb,l,e,R,ba,bb,k⟩
 obtain⟨xs,e1,e⟩:=aO e;obtain⟨ys,e2,e⟩:=aO e;obtain⟨hz,rfl⟩:=aE e;obtain⟨a,vs,rfl,ha,gW⟩:=R.at (fJ e1) ba;obtain⟨b,ws,rfl,hb,ID⟩:=R.at (fJ e2) bb;cases rx;cases ry;obtain⟨ax,n,r,e1,z1⟩:=I.lZ ha;obtain⟨eK,n2,r2,e2,z2⟩:=I.lZ hb;have hl:=r.length;have WL:=r2.length;have Ys:vs.length+ws.length<=sizeLine:=by rw[<-gW.length,<-ID.length];exact dY hz
 refine PySem.P.add_list e1 e2 ?_ (by grind)
 have ea:ax.toArray++eK.toArray=(ax++eK).toArray:=by simp
 rw[ea];exact⟨.ref _,_,I.OD (r.append r2) (by grind),rfl,Tx.xV k R I.fresh (gW.append ID)⟩
def PK{a b:Expr}{fa fb:Gx PV}(ha:PE X a (tE X af ag fa))(hb:PE X b (tE X af ag fb)):PE X (.BinOp a .Add b pos) (tE X af ag (PJ m fa fb)):=(Mo KJ ha hb).imp λσ H Q ⟨F,st,R,h⟩ =>
 ⟨F,st,R,h.bnd λp v F1 st1 H1 R1 g1 b1 h1=>⟨F1,st1,R1,h1.bnd λq w F2 dG H2 R2 g2 b2 h2=>by
  obtain⟨l,e,z⟩:=At.hp (At.bnd h2);exact⟨F2,dG,σ,p,q,l,e,R2,b1.mono g2,b2,z⟩⟩⟩
end
theorem ng{a b:Nat}(h:b<a):@Ne Addr a b:=pS h
structure Zp (h:Heap) (z TI TO i1 i2 l1 l2:Nat) (f0:Value) (k:Nat) (xs ys:Array Value):Prop where
 hz:IsZip h z TI TO f0
 hTI:IsPair h TI (.ref i1) (.ref i2)
 hTO:∃a b,IsPair h TO a b
 s1:SI h i1 l1 k xs
 s2:SI h i2 l2 k ys
 ord:i1<i2/\i2<TI/\TI<TO/\TO<z
 o1:l1<i1
 o2:l2<i1
section
variable {prog:Program} {w:World} {A:Around} {E:Value->Shared->Prop} {s:Shared} {z TI TO i1 i2 l1 l2:Nat} {k:Nat} {xs ys:Array Value}
theorem B3{x y:Value}{Q:Value->Shared->Prop}(Z:Zp s.heap z TI TO i1 i2 l1 l2 .none k xs ys)(hx:xs[k]?=some x)(hy:ys[k]?=some y)
  (hQ:∀h',Zp h' z TI TO i1 i2 l1 l2 (rawInt s.heap.objs.size) (k+1) xs ys->IsPair h' s.heap.objs.size x y->h'.objs.size=s.heap.objs.size+1->(∀c o,c≠z->c≠TO->c≠i1->c≠i2->s.heap.get? c=some o->h'.get? c=some o)->Q (.ref s.heap.objs.size) {s with heap:=h'}) :
  wpAny (model prog w) A (Builtin.«zip.__next__» ⟨[.ref z],[]⟩) (λjc s'=>∃v,jc=.done (.ret v)/\Q v s') E s:=by
 obtain⟨hz,hTI,⟨a,b,hTO⟩,s1,s2,⟨o1,o2,o3,o4⟩,q1,q2⟩:=Z;show wpAny _ _ (field (.ref z) 2 >>= _) _ _ _;refine ai (cH hz rfl (x:=.bool false) rfl ?_);show wpAny _ _ (field (.ref z) 3 >>= _) _ _ _;refine ai (cH hz rfl (x:=.ref TI) rfl (ai (fG hTI rfl ?_)));show wpAny _ _ (Builtin.SmallTypes.ownedTupleIsFree (.ref z) >>= _) _ _ _;refine ai ?_;unfold Builtin.SmallTypes.ownedTupleIsFree;refine ai (cH hz rfl (x:=.none) rfl (ar ?_));simp only[eI];refine ai (iB (ai (cH hz rfl (x:=.ref TO) rfl (ai (kF hz (by simp) λgL hz₁ e₁=>?_)))))
 replace hz₁:IsZip gL z TI TO .ellipsis:=hz₁;refine ai ?_;simp only[List.zipIdx_cons,List.zipIdx_nil,mY,pP];refine ai (ai (uP ?_));show wpAny _ _ (Builtin.SmallTypes.nextOf (.ref i1) >>= _) _ _ _;have mx:SI gL i1 l1 k xs:=s1.at (λo e=>e₁.extBut _ _ (by first | exact nl (by lia) | exact ng (by lia)) e) (λo e=>e₁.extBut _ _ (by first | exact nl (by lia) | exact ng (by lia)) e)
 refine ai (SI.next mx hx λqO xW e₂=>ar ?_)
 have qP:IsPair qO TO a b:=e₂.extBut _ _ (by first | exact nl (by lia) | exact ng (by lia)) (e₁.extBut _ _ (by first | exact nl (by lia) | exact ng (by lia)) hTO)
 refine ai (fG qP rfl (ai (zb qP λlj hTO₃ jb=>?_)))
 replace hTO₃:IsPair lj TO x b:=hTO₃;refine ai (pW (ar (ai (ai (uP ?_)))));show wpAny _ _ (Builtin.SmallTypes.nextOf (.ref i2) >>= _) _ _ _;have xX:SI lj i2 l2 k ys:=s2.at (λo e=>jb.extBut _ _ (by first | exact nl (by lia) | exact ng (by lia)) (e₂.extBut _ _ (by first | exact nl (by lia) | exact ng (by lia)) (e₁.extBut _ _ (by first | exact nl (by lia) | exact ng (by lia)) e))) (λo e=>jb.extBut _ _ (by first | exact nl (by lia) | exact ng (by lia)) (e₂.extBut _ _ (by first | exact nl (by lia) | exact ng (by lia)) (e₁.extBut _ _ (by first | exact nl (by lia) | exact ng (by lia)) e)))
 refine ai (SI.next xX hy λPL UM e₄=>ar ?_)
 have GL:IsPair PL TO x b:=e₄.extBut _ _ (by first | exact nl (by lia) | exact ng (by lia)) hTO₃
 refine ai (fG GL rfl (ai (zb GL λjF hTO₅ As=>?_)))
 replace hTO₅:IsPair jF TO x y:=hTO₅;refine ai (pW (ar (ar ?_)));refine ai (fG hTO₅ rfl (ai (wpAny_newTuple ?_)));have hsz:jF.objs.size=s.heap.objs.size:=by rw[As.1,e₄.1,jb.1,e₂.1,e₁.1]
 have MR:IsZip jF z TI TO .ellipsis:=As.extBut _ _ (by first | exact nl (by lia) | exact ng (by lia)) (e₄.extBut _ _ (by first | exact nl (by lia) | exact ng (by lia)) (jb.extBut _ _ (by first | exact nl (by lia) | exact ng (by lia)) (e₂.extBut _ _ (by first | exact nl (by lia) | exact ng (by lia)) hz₁)))
 have kp:∀c o,c≠z->c≠TO->c≠i1->c≠i2->s.heap.get? c=some o->jF.get? c=some o:=λc o c1 c2 c3 c4 e=>As.extBut _ _ c2 (e₄.extBut _ _ c4 (jb.extBut _ _ c2 (e₂.extBut _ _ c3 (e₁.extBut _ _ c1 e))))
 have UN:SI jF i1 l1 (k+1) xs:=xW.at (λo e=>As.extBut _ _ (by first | exact nl (by lia) | exact ng (by lia)) (e₄.extBut _ _ (by first | exact nl (by lia) | exact ng (by lia)) (jb.extBut _ _ (by first | exact nl (by lia) | exact ng (by lia)) e))) (λo e=>As.extBut _ _ (by first | exact nl (by lia) | exact ng (by lia)) (e₄.extBut _ _ (by first | exact nl (by lia) | exact ng (by lia)) (jb.extBut _ _ (by first | exact nl (by lia) | exact ng (by lia)) e)))
 have UO:SI jF i2 l2 (k+1) ys:=UM.at (λo e=>As.extBut _ _ (by first | exact nl (by lia) | exact ng (by lia)) e) (λo e=>As.extBut _ _ (by first | exact nl (by lia) | exact ng (by lia)) e)
 have zlt:z<jF.objs.size:=aH MR;show wpAny _ _ (Builtin.SmallTypes.ownedTupleHandOut (.ref z) (.ref jF.objs.size) >>= _) _ _ _;refine ai ?_;unfold Builtin.SmallTypes.ownedTupleHandOut;have UP:IsZip (jF.push {cls:=.type "tuple",data:=.seq #[x,y]}) z TI TO .ellipsis:=aK _ MR
 refine ai (kF UP (by simp) λY6 GN e₇=>?_)
 replace GN:IsZip Y6 z TI TO (rawInt jF.objs.size):=GN;refine kF GN (by simp) λGO B4 PM=>?_
 replace B4:IsZip GO z TI TO (rawInt jF.objs.size):=B4;have up:∀c o,c≠z->jF.get? c=some o->GO.get? c=some o:=λc o c1 e=>PM.extBut _ _ c1 (e₇.extBut _ _ c1 (aK _ e))
 have hT₈:IsPair GO jF.objs.size x y:=PM.extBut _ _ (by first | exact nl (by lia) | exact ng (by lia)) (e₇.extBut _ _ (by first | exact nl (by lia) | exact ng (by lia)) (bL _ rfl))
 have hs8:GO.objs.size=jF.objs.size+1:=by rw[PM.1,e₇.1,eG]
 rw[hsz]at B4 hT₈ hs8;refine ar ⟨_,rfl,?_⟩;show Q (.ref jF.objs.size) _;rw[hsz];refine hQ GO ⟨B4,up _ _ (by first | exact nl (by lia) | exact ng (by lia)) (kp _ _ (by first | exact nl (by lia) | exact ng (by lia)) (by first | exact nl (by lia) | exact ng (by lia)) (by first | exact nl (by lia) | exact ng (by lia)) (by first | exact nl (by lia) | exact ng (by lia)) hTI),⟨x,y,up _ _ (by first | exact nl (by lia) | exact ng (by lia)) hTO₅⟩,UN.at (λo e=>up _ o (by first | exact nl (by lia) | exact ng (by lia)) e) (λo e=>up _ o (by first | exact nl (by lia) | exact ng (by lia)) e),UO.at (λo e=>up _ o (by first | exact nl (by lia) | exact ng (by lia)) e) (λo e=>up _ o (by first | exact nl (by lia) | exact ng (by lia)) e),⟨o1,o2,o3,o4⟩,q1,q2⟩ hT₈ hs8 λc o c1 c2 c3 c4 e=>up c o c1 (kp c o c1 c2 c3 c4 e)
theorem GP{Q:Fin->Shared->Prop}(hh:A.handled=none)(Z:Zp s.heap z TI TO i1 i2 l1 l2 .none k xs ys)(xY:xs[k]?=none\/ys[k]?=none)
  (hE:∀h' e,(∀c o,c≠z->c≠TO->c≠i1->c≠i2->s.heap.get? c=some o->h'.get? c=some o)->(∃o,h'.get? e=some o/\o.cls=.type "StopIteration")->E (.ref e) {s with heap:=h'}):wpAny (model prog w) A (Builtin.«zip.__next__» ⟨[.ref z],[]⟩) Q E s:=by
 obtain⟨hz,hTI,⟨a,b,hTO⟩,s1,s2,⟨o1,o2,o3,o4⟩,q1,q2⟩:=Z;show wpAny _ _ (field (.ref z) 2 >>= _) _ _ _;refine ai (cH hz rfl (x:=.bool false) rfl ?_);show wpAny _ _ (field (.ref z) 3 >>= _) _ _ _;refine ai (cH hz rfl (x:=.ref TI) rfl (ai (fG hTI rfl ?_)));show wpAny _ _ (Builtin.SmallTypes.ownedTupleIsFree (.ref z) >>= _) _ _ _;refine ai ?_;unfold Builtin.SmallTypes.ownedTupleIsFree;refine ai (cH hz rfl (x:=.none) rfl (ar ?_));simp only[eI];refine ai (iB (ai (cH hz rfl (x:=.ref TO) rfl (ai (kF hz (by simp) λgL hz₁ e₁=>?_)))))
 replace hz₁:IsZip gL z TI TO .ellipsis:=hz₁;refine ai ?_;simp only[List.zipIdx_cons,List.zipIdx_nil,mY,pP];refine ai (ai (uP ?_));show wpAny _ _ (Builtin.SmallTypes.nextOf (.ref i1) >>= _) _ _ _;have mx:SI gL i1 l1 k xs:=s1.at (λo e=>e₁.extBut _ _ (by first | exact nl (by lia) | exact ng (by lia)) e) (λo e=>e₁.extBut _ _ (by first | exact nl (by lia) | exact ng (by lia)) e)
 cases hx:xs[k]? with
 | none =>
  refine ai (SI.stop hh mx hx λqO e hs₂ he=>?_)
  obtain⟨oe,PN,UQ⟩:=he;have MS:IsZip qO z TI TO .ellipsis:=hs₂ _ _ (by first | exact nl (by lia) | exact ng (by lia)) hz₁
  have Y7:e≠z:=λx=>by subst x;rw[MS]at PN;cases PN;simp at UQ
  exact kF MS (by simp) λlj _ hs₃=>hE lj e (λc o c1 _ c3 _ x=>hs₃.extBut _ _ c1 (hs₂ _ _ c3 (e₁.extBut _ _ c1 x))) ⟨oe,hs₃.extBut _ _ Y7 PN,UQ⟩
 | some x =>
  have hy:ys[k]?=none:=by
   rcases xY with h | h
   ·rw[hx]at h;cases h
   ·exact h
  refine ai (SI.next mx hx λqO xW e₂=>ar ?_)
  have qP:IsPair qO TO a b:=e₂.extBut _ _ (by first | exact nl (by lia) | exact ng (by lia)) (e₁.extBut _ _ (by first | exact nl (by lia) | exact ng (by lia)) hTO)
  refine ai (fG qP rfl (ai (zb qP λlj hTO₃ jb=>?_)))
  refine ai (pW (ar (ai (ai (uP ?_)))));show wpAny _ _ (Builtin.SmallTypes.nextOf (.ref i2) >>= _) _ _ _;have xX:SI lj i2 l2 k ys:=s2.at (λo e=>jb.extBut _ _ (by first | exact nl (by lia) | exact ng (by lia)) (e₂.extBut _ _ (by first | exact nl (by lia) | exact ng (by lia)) (e₁.extBut _ _ (by first | exact nl (by lia) | exact ng (by lia)) e))) (λo e=>jb.extBut _ _ (by first | exact nl (by lia) | exact ng (by lia)) (e₂.extBut _ _ (by first | exact nl (by lia) | exact ng (by lia)) (e₁.extBut _ _ (by first | exact nl (by lia) | exact ng (by lia)) e)))
  refine ai (SI.stop hh xX hy λPL e MT he=>?_)
  obtain⟨oe,PN,UQ⟩:=he;have MU:IsZip PL z TI TO .ellipsis:=MT _ _ (by first | exact nl (by lia) | exact ng (by lia)) (jb.extBut _ _ (by first | exact nl (by lia) | exact ng (by lia)) (e₂.extBut _ _ (by first | exact nl (by lia) | exact ng (by lia)) hz₁))
  have Y7:e≠z:=λx=>by subst x;rw[MU]at PN;cases PN;simp at UQ
  exact kF MU (by simp) λjF _ hs₅=>hE jF e (λc o c1 c2 c3 c4 x=>hs₅.extBut _ _ c1 (MT _ _ c4 (jb.extBut _ _ c2 (e₂.extBut _ _ c3 (e₁.extBut _ _ c1 x))))) ⟨oe,hs₅.extBut _ _ Y7 PN,UQ⟩
theorem xZ(l1 l2:Addr)(xs ys:Array Value)(c1 c2:String) :
  Meets (Builtin.«zip.__new__» ⟨[.type "zip",.ref l1,.ref l2],[]⟩) (λ_ R s=>ip s.heap l1 xs c1/\ip s.heap l2 ys c2 /\
   ∀h1 h2 h3 h4:Heap,h1=s.heap.push {cls:=.type c1,data:=.fields #[.ref l1,.int 0 0]}->h2=h1.push {cls:=.type c2,data:=.fields #[.ref l2,.int 0 0]}->h3=h2.push {cls:=.type "tuple",data:=.seq #[.ref s.heap.objs.size,.ref h1.objs.size]}->h4=h3.push {cls:=.type "tuple",data:=.seq #[.none,.none]} ->
    R (.ok (.ret (.ref h4.objs.size))) {s with heap:=h4.push {cls:=.type "zip",data:=.fields #[.none,.bool false,.bool false,.ref h2.objs.size,.ref h3.objs.size]}}) :=
 .of_wp λprog w A R s h=>by
  obtain⟨hp,g,d,tk,os⟩:=s;obtain⟨hl1,WL,h⟩:=h;have Kn:=sub_zip;have hL1:ip (Shared.heap ⟨hp,g,d,tk,os⟩) l1 xs c1:=hl1;have hL2:ip (Shared.heap ⟨hp.push {cls:=.type c1,data:=.fields #[.ref l1,.int 0 0]},g,d,tk,os⟩) l2 ys c2:=by
   rcases WL with⟨e,q⟩ | ⟨e,q⟩
   ·exact .inl ⟨e,Heap.IsList.push q _⟩
   ·exact .inr ⟨e,Heap.IsTuple.push q _⟩
  wp_walk using jV hL1,jV hL2
  exact⟨_,rfl,h _ _ _ _ rfl rfl rfl rfl⟩
end
def Y8(h:Heap)(z TI TO t:Nat)(f:Bool):Prop:=h.get? z=some {cls:=.type "zip",data:=.fields #[rawInt t,.bool f,.bool false,.ref TI,.ref TO]}
structure Zq (h:Heap) (z TI TO i1 i2 l1 l2 t:Nat) (f:Bool) (k:Nat) (xs ys:Array Value):Prop where
 hz:Y8 h z TI TO t f
 hTI:IsPair h TI (.ref i1) (.ref i2)
 s1:SI h i1 l1 k xs
 s2:SI h i2 l2 k ys
 al:∃o,h.get? t=some o
 ord:i1<i2/\i2<TI/\TI<TO/\TO<z/\z<t
 o1:l1<i1
 o2:l2<i1
section
variable {prog:Program} {w:World} {A:Around} {E:Value->Shared->Prop} {s:Shared} {z TI TO i1 i2 l1 l2 t:Nat} {f:Bool} {k:Nat} {xs ys:Array Value}
theorem Zq.at{h h':Heap}(Z:Zq h z TI TO i1 i2 l1 l2 t f k xs ys)(kp:∀b o,b<=z->h.get? b=some o->h'.get? b=some o)(ka:∀o,h.get? t=some o->∃o',h'.get? t=some o'):Zq h' z TI TO i1 i2 l1 l2 t f k xs ys:=by
 obtain⟨hz,hTI,s1,s2,⟨oa,ha⟩,⟨o1,o2,o3,o4,o5⟩,q1,q2⟩:=Z;exact⟨kp _ _ (aF _) hz,kp _ _ (by lia) hTI,s1.at (λo e=>kp _ o (by lia) e) (λo e=>kp _ o (by lia) e),s2.at (λo e=>kp _ o (by lia) e) (λo e=>kp _ o (by lia) e),ka _ ha,⟨o1,o2,o3,o4,o5⟩,q1,q2⟩
theorem B5{oa:Obj}{Q:Bool->Shared->Prop}(hz:Y8 s.heap z TI TO t f)(ha:s.heap.get? t=some oa)(hQ:∀gL,Y8 gL z TI TO t true->Heap.SameBut z s.heap gL->Q false {s with heap:=gL}):wpAny (model prog w) A (Builtin.SmallTypes.ownedTupleIsFree (.ref z)) Q E s:=by
 unfold Builtin.SmallTypes.ownedTupleIsFree;refine ai (cH hz rfl (x:=rawInt t) rfl ?_);show wpAny _ _ (loadIfAlive ((t:Int).toNat) >>= _) _ _ _;rw[kL];refine ai (W.kdx_alive ha ?_);simp only[Option.isNone_some,eF,cJ];refine ai (cH hz rfl (x:=.bool f) rfl ?_);cases f with
 | true =>
  rw[if_neg (show ¬((Value.bool true != Value.bool true)=true)from cf)]
  exact ar (hQ _ hz (Heap.SameBut.refl _ _))
 | false =>
  rw[if_pos (show(Value.bool false != Value.bool true)=true from rfl)]
  exact ai (kF hz (by simp) λgL hz₁ e₁=>ar (hQ gL hz₁ e₁))
theorem KL{x y:Value}{Q:Value->Shared->Prop}(Z:Zq s.heap z TI TO i1 i2 l1 l2 t f k xs ys)(hx:xs[k]?=some x)(hy:ys[k]?=some y)
  (hQ:∀h',Zq h' z TI TO i1 i2 l1 l2 t true (k+1) xs ys->IsPair h' s.heap.objs.size x y->h'.objs.size=s.heap.objs.size+1->(∀c o,c≠z->c≠i1->c≠i2->s.heap.get? c=some o->h'.get? c=some o)->Q (.ref s.heap.objs.size) {s with heap:=h'}) :
  wpAny (model prog w) A (Builtin.«zip.__next__» ⟨[.ref z],[]⟩) (λjc s'=>∃v,jc=.done (.ret v)/\Q v s') E s:=by
 obtain⟨hz,hTI,s1,s2,⟨oa,ha⟩,⟨o1,o2,o3,o4,o5⟩,q1,q2⟩:=Z;show wpAny _ _ (field (.ref z) 2 >>= _) _ _ _;refine ai (cH hz rfl (x:=.bool false) rfl ?_);show wpAny _ _ (field (.ref z) 3 >>= _) _ _ _;refine ai (cH hz rfl (x:=.ref TI) rfl (ai (fG hTI rfl ?_)));show wpAny _ _ (Builtin.SmallTypes.ownedTupleIsFree (.ref z) >>= _) _ _ _;refine ai (B5 hz ha λgL hz₁ e₁=>?_)
 simp only[eF,cJ];refine ai ?_;simp only[List.forIn_toArray,mY,pP];refine ai (ai (dU ?_));show wpAny _ _ (Builtin.SmallTypes.nextOf (.ref i1) >>= _) _ _ _;have mx:SI gL i1 l1 k xs:=s1.at (λo e=>e₁.extBut _ _ (by first | exact nl (by lia) | exact ng (by lia)) e) (λo e=>e₁.extBut _ _ (by first | exact nl (by lia) | exact ng (by lia)) e)
 refine ai (SI.next mx hx λqO xW e₂=>ar ?_)
 refine ar (ai (ai (dU ?_)));show wpAny _ _ (Builtin.SmallTypes.nextOf (.ref i2) >>= _) _ _ _;have GQ:SI qO i2 l2 k ys:=s2.at (λo e=>e₂.extBut _ _ (by first | exact nl (by lia) | exact ng (by lia)) (e₁.extBut _ _ (by first | exact nl (by lia) | exact ng (by lia)) e)) (λo e=>e₂.extBut _ _ (by first | exact nl (by lia) | exact ng (by lia)) (e₁.extBut _ _ (by first | exact nl (by lia) | exact ng (by lia)) e))
 refine ai (SI.next GQ hy λlj xX jb=>ar ?_)
 refine ar (ar ?_);have hsz:lj.objs.size=s.heap.objs.size:=by rw[jb.1,e₂.1,e₁.1]
 have kp:∀c o,c≠z->c≠i1->c≠i2->s.heap.get? c=some o->lj.get? c=some o:=λc o c1 c2 c3 e=>jb.extBut _ _ c3 (e₂.extBut _ _ c2 (e₁.extBut _ _ c1 e))
 have up:∀c o,c≠i1->c≠i2->gL.get? c=some o->lj.get? c=some o:=λc o c2 c3 e=>jb.extBut _ _ c3 (e₂.extBut _ _ c2 e)
 refine ai (wpAny_newTuple (hsz:=by show 2<=sizeLine;decide) ?_)
 show wpAny _ _ (ret (Value.ref lj.objs.size)) _ _ {s with heap:=lj.push {cls:=.type "tuple",data:=.seq #[x,y]}}
 rw[hsz];refine ar ⟨_,rfl,?_⟩;have Z3:Zq lj z TI TO i1 i2 l1 l2 t true (k+1) xs ys:=⟨up _ _ (by first | exact nl (by lia) | exact ng (by lia)) (by first | exact nl (by lia) | exact ng (by lia)) hz₁,kp _ _ (by first | exact nl (by lia) | exact ng (by lia)) (by first | exact nl (by lia) | exact ng (by lia)) (by first | exact nl (by lia) | exact ng (by lia)) hTI,xW.at (λo e=>jb.extBut _ _ (by first | exact nl (by lia) | exact ng (by lia)) e) (λo e=>jb.extBut _ _ (by first | exact nl (by lia) | exact ng (by lia)) e),xX,⟨oa,kp _ _ (by first | exact nl (by lia) | exact ng (by lia)) (by first | exact nl (by lia) | exact ng (by lia)) (by first | exact nl (by lia) | exact ng (by lia)) ha⟩,⟨o1,o2,o3,o4,o5⟩,q1,q2⟩
 refine hQ _ (Z3.at (λb o _ e=>aK _ e) λo e=>⟨o,aK _ e⟩) ?_ (by rw[eG,hsz]) λc o c1 c2 c3 e=>aK _ (kp c o c1 c2 c3 e)
 rw[<-hsz];exact bL _ rfl
theorem PQ{Q:Fin->Shared->Prop}(hh:A.handled=none)(Z:Zq s.heap z TI TO i1 i2 l1 l2 t f k xs ys)(xY:xs[k]?=none\/ys[k]?=none)
  (hE:∀h' e,(∀c o,c≠z->c≠i1->c≠i2->s.heap.get? c=some o->h'.get? c=some o)->(∃o,h'.get? e=some o/\o.cls=.type "StopIteration")->E (.ref e) {s with heap:=h'}):wpAny (model prog w) A (Builtin.«zip.__next__» ⟨[.ref z],[]⟩) Q E s:=by
 obtain⟨hz,hTI,s1,s2,⟨oa,ha⟩,⟨o1,o2,o3,o4,o5⟩,q1,q2⟩:=Z;show wpAny _ _ (field (.ref z) 2 >>= _) _ _ _;refine ai (cH hz rfl (x:=.bool false) rfl ?_);show wpAny _ _ (field (.ref z) 3 >>= _) _ _ _;refine ai (cH hz rfl (x:=.ref TI) rfl (ai (fG hTI rfl ?_)));show wpAny _ _ (Builtin.SmallTypes.ownedTupleIsFree (.ref z) >>= _) _ _ _;refine ai (B5 hz ha λgL hz₁ e₁=>?_)
 simp only[eF,cJ];refine ai ?_;simp only[List.forIn_toArray,mY,pP];refine ai (ai (dU ?_));show wpAny _ _ (Builtin.SmallTypes.nextOf (.ref i1) >>= _) _ _ _;have mx:SI gL i1 l1 k xs:=s1.at (λo e=>e₁.extBut _ _ (by first | exact nl (by lia) | exact ng (by lia)) e) (λo e=>e₁.extBut _ _ (by first | exact nl (by lia) | exact ng (by lia)) e)
 cases hx:xs[k]? with
 | none =>
  refine ai (SI.stop hh mx hx λqO e hs₂ he=>?_)
  exact hE qO e (λc o c1 c3 _ x=>hs₂ _ _ c3 (e₁.extBut _ _ c1 x)) he
 | some x =>
  have hy:ys[k]?=none:=by
   rcases xY with h | h
   ·rw[hx]at h;cases h
   ·exact h
  refine ai (SI.next mx hx λqO xW e₂=>ar ?_)
  refine ar (ai (ai (dU ?_)));show wpAny _ _ (Builtin.SmallTypes.nextOf (.ref i2) >>= _) _ _ _;have GQ:SI qO i2 l2 k ys:=s2.at (λo e=>e₂.extBut _ _ (by first | exact nl (by lia) | exact ng (by lia)) (e₁.extBut _ _ (by first | exact nl (by lia) | exact ng (by lia)) e)) (λo e=>e₂.extBut _ _ (by first | exact nl (by lia) | exact ng (by lia)) (e₁.extBut _ _ (by first | exact nl (by lia) | exact ng (by lia)) e))
  refine ai (SI.stop hh GQ hy λlj e hs₃ he=>?_)
  exact hE lj e (λc o c1 c2 c3 x=>hs₃ _ _ c3 (e₂.extBut _ _ c2 (e₁.extBut _ _ c1 x))) he
end
def ZS(h:Heap)(z TI TO i1 i2 l1 l2 B i:Nat)(xs ys:Array Value):Prop:=(i=0/\Zp h z TI TO i1 i2 l1 l2 .none 0 xs ys)\/(0<i/\∃f,Zq h z TI TO i1 i2 l1 l2 B f i xs ys)
noncomputable def lp(B i:Nat):Array Value:=((List.range i).map λj=>Value.ref (B+j)).toArray
theorem DE(B i:Nat):(lp B i).push (.ref (B+i))=lp B (i+1):=by
 unfold lp;rw[zy,fF];simp
theorem tN(B i:Nat):(lp B i).size=i:=by unfold lp;simp
section
variable {prog:Program} {w:World} {A:Around} {E:Value->Shared->Prop} {s:Shared} {z TI TO i1 i2 l1 l2 B:Nat} {i:Nat} {xs ys:Array Value}
theorem ZS.zip{h:Heap}(Z:ZS h z TI TO i1 i2 l1 l2 B i xs ys):∃o,h.get? z=some o/\o.cls=.type "zip":=by
 rcases Z with⟨_,Z⟩ | ⟨_,f,Z⟩
 ·exact⟨_,Z.hz,rfl⟩
 ·exact⟨_,Z.hz,rfl⟩
theorem ZS.at{h h':Heap}(Z:ZS h z TI TO i1 i2 l1 l2 B i xs ys)(kp:∀b o,b<=z->h.get? b=some o->h'.get? b=some o)(ka:∀o,h.get? B=some o->∃o',h'.get? B=some o'):ZS h' z TI TO i1 i2 l1 l2 B i xs ys:=by
 rcases Z with⟨e,⟨hz,hTI,⟨a,b,hTO⟩,s1,s2,⟨o1,o2,o3,o4⟩,q1,q2⟩⟩ | ⟨e,f,Z⟩
 ·exact .inl ⟨e,⟨kp _ _ (aF _) hz,kp _ _ (by lia) hTI,⟨a,b,kp _ _ (by lia) hTO⟩,s1.at (λo e=>kp _ o (by lia) e) (λo e=>kp _ o (by lia) e),s2.at (λo e=>kp _ o (by lia) e) (λo e=>kp _ o (by lia) e),⟨o1,o2,o3,o4⟩,q1,q2⟩⟩
 ·exact .inr ⟨e,f,Z.at kp ka⟩
theorem KN{x y:Value}{Q:Option Value->Shared->Prop}(Z:ZS s.heap z TI TO i1 i2 l1 l2 B i xs ys)(hsz:s.heap.objs.size=B+i)(hx:xs[i]?=some x)(hy:ys[i]?=some y)
  (hQ:∀h',ZS h' z TI TO i1 i2 l1 l2 B (i+1) xs ys->IsPair h' (B+i) x y->h'.objs.size=B+(i+1)->(∀c o,c≠z->c≠TO->c≠i1->c≠i2->s.heap.get? c=some o->h'.get? c=some o)->Q (some (.ref (B+i))) {s with heap:=h'}) :
  wpAny (model prog w) A (pyNext (.ref z)) Q E s:=by
 obtain⟨oz,WX,Y9⟩:=Z.zip;have hT:s.TypeIs (.ref z) "zip":=⟨_,WX,Y9⟩;have Za:z<s.heap.objs.size:=aH WX;unfold pyNext;rcases Z with⟨rfl,Z⟩ | ⟨hi,f,Z⟩
 ·refine ai (kT (fZ (name:=Str.ofString "__next__") hT f9 (fE f9 hT mW
   (B3 Z hx hy λh' Z' MV Ud kp=>ar ?_) (mV _))))
  obtain⟨hz,hTI,_,s1,s2,⟨o1,o2,o3,o4⟩,q1,q2⟩:=Z';rw[hsz]at MV hz Za ⊢;refine(hQ h' (.inr ⟨Nat.succ_pos _,false,⟨hz,hTI,s1,s2,⟨_,MV⟩,⟨o1,o2,o3,o4,by lia⟩,q1,q2⟩⟩) MV (by lia) kp)
 ·refine ai (kT (fZ (name:=Str.ofString "__next__") hT f9 (fE f9 hT mW
   (KL Z hx hy λh' Z' MV Ud kp=>ar ?_) (mV _))))
  rw[hsz]at MV ⊢;exact(hQ h' (.inr ⟨Nat.succ_pos _,true,Z'⟩) MV (by lia) λc o c1 _ c3 c4 e=>kp c o c1 c3 c4 e)
theorem KO{Q:Option Value->Shared->Prop}(hh:A.handled=none)(Z:ZS s.heap z TI TO i1 i2 l1 l2 B i xs ys)(xY:xs[i]?=none\/ys[i]?=none)
  (hQ:∀h',(∀c o,c≠z->c≠TO->c≠i1->c≠i2->s.heap.get? c=some o->h'.get? c=some o)->Q none {s with heap:=h'}) :
  wpAny (model prog w) A (pyNext (.ref z)) Q E s:=by
 obtain⟨oz,WX,Y9⟩:=Z.zip;have hT:s.TypeIs (.ref z) "zip":=⟨_,WX,Y9⟩;unfold pyNext;rcases Z with⟨rfl,Z⟩ | ⟨hi,f,Z⟩
 ·refine ai (kT (fZ (name:=Str.ofString "__next__") hT f9 (fE f9 hT mW (GP hh Z xY λh' e kp ⟨o,ho,hcl⟩=>?_) (mV _))))
  exact ai (kM (T:="StopIteration") (b:=true) ⟨o,ho,hcl⟩ uN (ar (hQ h' kp)))
 ·refine ai (kT (fZ (name:=Str.ofString "__next__") hT f9 (fE f9 hT mW (PQ hh Z xY λh' e kp ⟨o,ho,hcl⟩=>?_) (mV _))))
  exact ai (kM (T:="StopIteration") (b:=true) ⟨o,ho,hcl⟩ uN (ar (hQ h' λc o c1 _ c3 c4 e=>kp c o c1 c3 c4 e)))
end
section
variable {prog:Program} {w:World} {A:Around} {R:Result->Shared->Prop} {z TI TO i1 i2 l1 l2 S B n:Nat} {xs ys:Array Value}
def my(h:Heap)(B i:Nat)(xs ys:Array Value):Prop:=∀j,j<i->∃x y,xs[j]?=some x/\ys[j]?=some y/\IsPair h (B+j) x y
theorem KP(hh:A.handled=none)(hn:n=min xs.size ys.size)(hzS:z<S)(hSB:S<B)(ord:i1<z/\i2<z/\TO<z)(res:Value)(RT:n<=sizeLine) :
  ∀(k i:Nat) (s:Shared) (c:Nat),n-i=k->i<=n->ZS s.heap z TI TO i1 i2 l1 l2 B i xs ys->s.heap.objs.size=B+i->my s.heap B i xs ys->s.heap.get? S=some {cls:=.type "list",dict:=none,data:=.seq (lp B i) c,slots:=#[]} ->
  (∀h' c',(∀b o,b≠z->b≠TO->b≠i1->b≠i2->b≠S->s.heap.get? b=some o->h'.get? b=some o)->h'.get? S=some {cls:=.type "list",dict:=none,data:=.seq (lp B n) c',slots:=#[]}->my h' B n xs ys->R (.ok (.ret res)) {s with heap:=h'}) ->
  codeAny (model prog w) A (.builtin "list.extend.loop" ⟨[.ref S,.ref z,res],[]⟩) R s:=by
 intro k;induction k with
 | zero =>
  intro i s c hk hi rS hsz hp hS hR;have MN:i=n:=by lia
  subst MN;refine uK F.entry_extend_loop ?_;rw[uA uC _];show wpAny _ A.in1 (pyNext (.ref z) >>= _) _ _ s;refine ai (KO (by simp[hh]) rS ?_ λh' kp=>?_)
  ·rcases Nat.le_total xs.size ys.size with q | q
   ·exact .inl (kD (by lia))
   ·exact .inr (kD (by lia))
  ·refine ar (hR h' c (λb o c1 c2 c3 c4 _ e=>kp b o c1 c2 c3 c4 e) (kp S _ (by lia) (by lia) (by lia) (by lia) hS) λj hj=>?_)
   obtain⟨x,y,e1,e2,e3⟩:=hp j hj;exact⟨x,y,e1,e2,kp _ _ (by lia) (by lia) (by lia) (by lia) e3⟩
 | succ k ih =>
  intro i s c hk hi rS hsz hp hS hR;have oX:i<n:=by lia
  have hx:xs[i]?=some (xs[i]'(by lia)):=pf _
  have hy:ys[i]?=some (ys[i]'(by lia)):=pf _
  refine uK F.entry_extend_loop ?_;rw[uA uC _];show wpAny _ A.in1 (pyNext (.ref z) >>= _) _ _ s;refine ai (KN rS hsz hx hy λh' PD hpr Zb kp=>?_)
  have MQ:=kp S _ (by lia) (by lia) (by lia) (by lia) hS
  show wpAny _ A.in1 (updateSeq S (·.push (.ref (B+i))) >>= _) _ _ _;refine ai ?_;have Zc:=mS (Obj.mapSeq (·.push (Value.ref (B+i)))) MQ rfl;obtain⟨c1,Zc⟩:∃c1,(h'.update S (Obj.mapSeq (·.push (Value.ref (B+i))))).get? S=some {cls:=.type "list",dict:=none,data:=.seq (lp B (i+1)) c1,slots:=#[]}:=⟨_,by rw[<-DE];exact Zc⟩
  have oth:∀b o,b≠S->h'.get? b=some o->(h'.update S (Obj.mapSeq (·.push (Value.ref (B+i))))).get? b=some o:=λb o hb e=>(jg _ _ (bU hb)).trans e
  refine pM (s:={s with heap:=h'}) MQ rfl (ar ⟨uR uC _,ih (i+1) _ c1 (by lia) oX (PD.at (λb o hb e=>oth b o (by lia) e) λo e=>⟨o,oth _ o (by lia) e⟩) ?_ (λj hj=>?_) ?_ λh2 c2 Uk hS2 Zd=>?_⟩)
   (by rw[tN];lia) (by show((lp B i).push _).size<=sizeLine+1;rw[Array.size_push,tN];lia)
  ·show(h'.update S _).objs.size=_;rw[uG];exact Zb
  ·by_cases hji:j=i
   ·subst hji;exact⟨_,_,hx,hy,oth _ _ (by lia) hpr⟩
   ·obtain⟨x,y,e1,e2,e3⟩:=hp j (by lia)
    exact⟨x,y,e1,e2,oth _ _ (by lia) (kp _ _ (by lia) (by lia) (by lia) (by lia) e3)⟩
  ·exact Zc
  ·exact hR h2 c2 (λb o c1 c2 c3 c4 c5 e=>Uk b o c1 c2 c3 c4 c5 (oth b o c5 (kp b o c1 c2 c3 c4 e))) hS2 Zd
end
theorem Au:typeLookup (.type "zip") "__len__"=pure none:=by rw[zA,yZ];kernel_rfl
theorem x9:typeLookup (.type "zip") "__length_hint__"=pure none:=by rw[zA,yZ];kernel_rfl
section
variable {prog:Program} {w:World} {A:Around} {E:Value->Shared->Prop} {s:Shared} {R:Result->Shared->Prop} {z TI TO i1 i2 l1 l2 S B n:Nat} {xs ys:Array Value}
theorem DF{c:Nat}(hh:A.handled=none)(hn:n=min xs.size ys.size)(hzS:z<S)(hB:s.heap.objs.size=B)(hSB:S<B)(ord:i1<z/\i2<z/\TO<z)(res:Value)(RT:n<=sizeLine)
  (Z:Zp s.heap z TI TO i1 i2 l1 l2 .none 0 xs ys) (hS:s.heap.get? S=some {cls:=.type "list",data:=.seq #[] c})
  (hR:∀h' c',(∀b o,b≠z->b≠TO->b≠i1->b≠i2->b≠S->s.heap.get? b=some o->h'.get? b=some o)->h'.get? S=some {cls:=.type "list",dict:=none,data:=.seq (lp B n) c',slots:=#[]}->my h' B n xs ys->R (.ok (.ret res)) {s with heap:=h'}) :
  wpAny (model prog w) A.in1 (Builtin.List.listExtendWith (.ref S) (.ref z) res)
   (λjc s'=>match jc with | .done f=>R (.ok f) s' | .again c'=>c'.quiet=true/\codeAny (model prog w) A c' R s') (λe s'=>R (.error e) s') s:=by
 have hT:s.TypeIs (.ref z) "zip":=⟨_,Z.hz,rfl⟩;unfold Builtin.List.listExtendWith;refine ai (nc hT ?_);have h1:Builtin.List.listSameRef (.ref S) (.ref z)=false:=by
  have:(S==z)=false:=by simp;lia
  exact this
 have h2:(Value.type "zip"==Value.type "list")=false:=by decide
 have h3:(Value.type "zip"==Value.type "tuple")=false:=by decide
 simp only[h1,h2,h3,Bool.or_false,eF,cJ];refine ai (zu Z.hz ?_);refine ai (dU ?_);unfold Builtin.List.listLengthHint;refine ai (mZ hT Au ?_);show wpAny _ A.in1 (specialOf (Value.ref z) (Str.ofString "__length_hint__") >>= _) _ _ _;refine ai (mZ hT x9 ?_);refine ar ?_;show wpAny _ A.in1 (rule "list.extend.makes-room" >>= λ_=>Builtin.List.listTouch (.ref S) >>= λ_ =>
  again (.builtin "list.extend.loop" ⟨[.ref S,.ref z,res],[]⟩)) _ _ _
 refine ai (iB ?_);refine ai ?_;show wpAny _ A.in1 (updateSeq S (·.push .none) >>= λ_=>updateSeq S (·.pop)) _ _ _
 refine ai (pM hS rfl ?_);have B6:=mS (Obj.mapSeq (·.push Value.none)) hS rfl;refine pM (hz:=by seq_fits) B6 rfl ?_
 have UR:=mS (Obj.mapSeq (·.pop)) B6 rfl;have oth:∀b o,b≠S->s.heap.get? b=some o->((s.heap.update S (Obj.mapSeq (·.push Value.none))).update S (Obj.mapSeq (·.pop))).get? b=some o :=
  λb o hb e=>(jg _ _ (bU hb)).trans ((jg _ _ (bU hb)).trans e)
 have Z0:ZS s.heap z TI TO i1 i2 l1 l2 B 0 xs ys:=.inl ⟨rfl,Z⟩;refine ar ⟨uR uC _,KP hh hn hzS hSB ord res RT n 0 _ _ rfl (iA _) (Z0.at (λb o hb e=>oth b o (by lia) e) λo e=>?_) ?_ (λj hj=>absurd hj (Nat.not_lt_zero _)) UR λh' c' kp MQ hp=>?_⟩
 ·have q:=aH e;rw[hB]at q;exact absurd q (fH _)
 ·show((s.heap.update S _).update S _).objs.size=_;rw[uG,uG];exact hB
 ·exact hR h' c' (λb o c1 c2 c3 c4 c5 e=>kp b o c1 c2 c3 c4 c5 (oth b o c5 e)) MQ hp
theorem sx{Q:Value->Shared->Prop}(hh:A.handled=none)(hn:n=min xs.size ys.size)(RT:n<=sizeLine)(ord:i1<z/\i2<z/\TO<z)(Z:Zp s.heap z TI TO i1 i2 l1 l2 .none 0 xs ys)
  (hQ:∀h' c',(∀b o,b≠z->b≠TO->b≠i1->b≠i2->s.heap.get? b=some o->h'.get? b=some o)->h'.get? s.heap.objs.size=some {cls:=.type "list",dict:=none,data:=.seq (lp (s.heap.objs.size+1) n) c',slots:=#[]}->my h' (s.heap.objs.size+1) n xs ys->Q (.ref s.heap.objs.size) {s with heap:=h'}) :
  wpAny (model prog w) A (call (.type "list") [.ref z]) Q E s:=by
 refine callType_codes (Q₁:=λobj s₁=>obj=.ref s.heap.objs.size/\s₁={s with heap:=s.heap.push {cls:=.type "list",data:=.seq #[]}}) F.called_list (F.typeCall_list_1 _) F.entry_list_init
  (code_list_new _ ⟨rfl,rfl⟩) λobj s₁ gL=>?_
 obtain⟨rfl,rfl⟩:=gL;have Za:z<s.heap.objs.size:=aH Z.hz;have hS:(s.heap.push {cls:=.type "list",data:=.seq #[]}).get? s.heap.objs.size=some {cls:=.type "list",data:=.seq #[]}:=bL _ rfl
 refine⟨⟨_,hS,rfl⟩,F.args_list_init_2 _ _,?_⟩;show wpAny _ _ (do let old <-Builtin.List.listItems (.ref s.heap.objs.size);Builtin.List.listUpdate (.ref s.heap.objs.size) (λ_=>#[]);letGo old.toList.reverse;Builtin.List.listExtendWith (.ref s.heap.objs.size) (.ref z) .none) _ _ _
 refine ai ?_;unfold Builtin.List.listItems;refine ai (fG hS rfl (ar ?_));show wpAny _ _ (updateSeq s.heap.objs.size (λ_=>#[]) >>= λ_=>letGo (#[]:Array Value).toList.reverse >>= λ_=>Builtin.List.listExtendWith (.ref s.heap.objs.size) (.ref z) .none) _ _ _
 refine ai (pM hS rfl ?_);have B6:=mS (Obj.mapSeq (λ_=>(#[]:Array Value))) hS rfl
 have oth:∀b o,b≠s.heap.objs.size->s.heap.get? b=some o->((s.heap.push {cls:=.type "list",data:=.seq #[]}).update s.heap.objs.size (Obj.mapSeq (λ_=>(#[]:Array Value)))).get? b=some o :=
  λb o hb e=>(jg _ _ (bU hb)).trans (aK _ e)
 refine ai (pW ?_);have Z1:ZS ((s.heap.push {cls:=.type "list",data:=.seq #[]}).update s.heap.objs.size (Obj.mapSeq (λ_=>(#[]:Array Value)))) z TI TO i1 i2 l1 l2 0 0 xs ys :=
  ZS.at (h:=s.heap) (.inl ⟨rfl,Z⟩) (λb o hb e=>oth b o (by lia) e) λo e=>⟨o,oth _ o (by lia) e⟩
 rcases Z1 with⟨_,Z1⟩ | ⟨h0,_⟩
 ·refine DF (A:=A.in1) (by simp[hh]) hn Za (B:=s.heap.objs.size+1) ?_ (pF _) ord .none RT Z1 B6 λh' c' kp MQ hp=>⟨rfl,?_⟩
  ·show((s.heap.push _).update _ _).objs.size=_;rw[uG,eG]
  ·exact hQ h' c' (λb o c1 c2 c3 c4 e=>kp b o c1 c2 c3 c4 (bC (aH e)) (oth b o (bC (aH e)) e)) MQ hp
 ·exact absurd h0 (fH _)
end
theorem tO{vs:List V}{us:List Value}(r:Vals vs us):∀{i:Nat} {u:Value},us[i]?=some u->∃v,vs[i]?=some v/\RelV v u:=by
 induction r with
 | nil=>intro i u e;simp at e
 | @cons v w vs ws h t ih =>
  intro i u e;cases i with
  | zero=>simp at e;subst e;exact⟨v,rfl,h⟩
  | succ i=>obtain⟨x,h1,h2⟩:=ih (i:=i) (u:=u) (by simpa using e);exact⟨x,by simpa using h1,h2⟩
theorem DG(B n:Nat):Vals ((List.range n).map λj=>V.ref (B+j)) (lp B n).toList:=by
 unfold lp;induction n with
 | zero=>exact .nil
 | succ n ih =>
  rw[zy,fF,fF];exact ih.append (.cons rfl .nil)
theorem ya{X:Cx}{ah:List (Addr×Obj)}{σ:St}{H1 af:Hp}{ag F1:Fz}{st:bY}{s:Shared}{B m:Nat}{xs ys:List Value}{vs ws:List V}{ps qs:List PV}(b0:Nat)(hb0:b0<=B)(fo:∀b,b0<=b->H1 b=none/\qg X ah H1 b)(hsz:X.s₀.heap.objs.size<=b0)(I:Inv X ah σ H1 s)(R:Rep X.K af ag F1 st σ H1)(r1:Vals vs xs)(r2:Vals ws ys)(b1:ay X.K F1 ps vs)(b2:ay X.K F1 qs ws)
  (hp:my s.heap B m xs.toArray ys.toArray):∀i,i<=m->∃Hi Fi,Inv X ah σ Hi s/\Rep X.K af ag Fi st σ Hi/\Gr F1 Fi/\ay X.K Fi ((List.zipWith fV ps qs).take i) ((List.range i).map λj=>V.ref (B+j))/\∀b,b0<=b->(b<B\/B+i<=b)->Hi b=none:=by
 intro i;induction i with
 | zero=>intro _;exact⟨H1,F1,I,R,Gr.refl _,by simp only[List.take_zero,List.range_zero,di];exact .nil,λb hb _=>(fo b hb).1⟩
 | succ i ih =>
  intro hi;obtain⟨Hi,Fi,Ii,Ri,si,bi,ni⟩:=ih (by lia)
  obtain⟨x,y,e1,e2,e3⟩:=hp i hi;obtain⟨v,ev,rv⟩:∃v,vs[i]?=some v/\RelV v x:=by
   exact tO r1 (by simpa using e1)
  obtain⟨w,ew,JK⟩:∃w,ws[i]?=some w/\RelV w y:=by
   exact tO r2 (by simpa using e2)
  obtain⟨p,ep⟩:∃p,ps[i]?=some p:=⟨_,eE (by have:=(dS.mp ev).1;rw[b1.length];exact this)⟩
  obtain⟨v',ev',bp⟩:=b1.get ep;cases aX (ev.symm.trans ev');obtain⟨q,eq'⟩:∃q,qs[i]?=some q:=⟨_,eE (by have:=(dS.mp ew).1;rw[b2.length];exact this)⟩
  obtain⟨w',ew',bq⟩:=b2.get eq';cases aX (ew.symm.trans ew');have hn:Hi (B+i)=none:=ni (B+i) (by lia) (.inr (aF _))
  obtain⟨_,f2,f3,f4,f5,f6⟩:=(fo (B+i) (by lia)).2
  have I2:=Inv.adopt (D:=B+i) (o:=.au [v,w]) Ii hn (aY hsz (by lia)) f2 f5 f6 ⟨(by show 2<=sizeLine;decide),[x,y],.cons rv (.cons JK .nil),⟨_,e3,rfl,⟨0,rfl⟩,rfl⟩⟩
  obtain⟨R2,s2⟩:=Ri.laid (.au [v,w]) hn;refine⟨_,_,I2,R2,si.trans s2,?_,λb hb hc=>?_⟩
  ·have hz:(List.zipWith fV ps qs)[i]?=some (fV p q):=by rw[List.getElem?_zipWith,ep,eq']
   rw[List.take_succ,hz,zy,fF];exact(bi.mono s2).append (.cons (bR.mpr ⟨B+i,[v,w],rfl,iC.of aA,.cons (bp.mono (si.trans s2)) (.cons (bq.mono (si.trans s2)) .nil)⟩) .nil)
  ·rw[aN (show b≠B+i from λz=>by lia)]
   exact ni b hb (by lia)
def lzO(p q:PV):Option (List PV):=(oy p).bind λps=>(oy q).bind λqs=>if(List.zipWith fV ps qs).length<=ic then some (List.zipWith fV ps qs)else none
def PR(m:Nat)(fa fb:Gx PV):Gx PV:=bnd fa λp=>bnd fb λq=>bnd (jT (lzO p q)) λl=>xV m l
section
variable {X:Cx} {af:Hp} {ag:Fz} {a b:Expr} {fa fb:Gx PV} {pos p GG zp:Pos} {m:Nat}
def PU(hh:X.A.handled=none)(hgl:Gl X "list")(hml:X.mg "list"=none)(hg:Gl X "zip")(hm:X.mg "zip"=none)(ha:PE X a (tE X af ag fa))(hb:PE X b (tE X af ag fb))(hs:starEach [a,b] X.env=(false,eval a X.env)::starEach [b] X.env)(Fs:starEach [b] X.env=[(false,eval b X.env)]) :
  PE X (.Call (.Name "list" p) [.Call (.Name "zip" zp) [a,b] [] GG] [] pos) (tE X af ag (PR m fa fb)):=by
 rintro ah s σ H Q I ⟨F,st,Rp,h⟩
 refine mU (ld_blt I hgl hml (mi .list) ?_ (by decide) (by decide))
 refine kx (MM rfl ?_) rfl rfl;have hA:=gV ha (gV hb qp Fs) hs GG ah s σ H (λvs H'=>∃F' st' x y pa pb,vs=[x,y]/\Rep X.K af ag F' st' σ H'/\bj X.K F' pa x/\bj X.K F' pb y/\Tx X af ag (bj X.K) F' st' (bnd (jT (lzO pa pb)) λl=>xV m l) σ Q) I
  ⟨F,st,Rp,h.bnd λpa v F1 st1 H1 R1 g1 b1 h1=>⟨F1,st1,R1,h1.bnd λpb w F2 dG H2 R2 g2 b2 h2=>⟨F2,dG,v,w,pa,pb,rfl,R2,b1.mono g2,b2,h2⟩⟩⟩
 refine Call_ (ld_blt I hg hm boot_zip (kx (thn hA λus s1 z9=>?_) hs (by rw[Fs];rfl)))
 obtain⟨vs,H1,I1,r1,F1,st1,x,y,pa,pb,ev,R1,b1,b2,hT⟩:=z9;subst ev;obtain⟨l,e,hT⟩:=At.jT (At.bnd hT);obtain⟨ps,f3,e⟩:=aO e;obtain⟨qs,f4,e⟩:=aO e;obtain⟨Ad,rfl⟩:=aE e;obtain⟨u1,u2,rfl,Um,Ze⟩:=Fq r1;obtain⟨c1,l1,vs1,rfl,q1,RR,k1⟩:=jC f3 b1;obtain⟨c2,l2,vs2,rfl,q2,WY,k2⟩:=jC f4 b2;cases Um;cases Ze;obtain⟨ax,v1,Ks⟩:=(k1 H1 R1.sub).get I1;obtain⟨eK,v2,RU⟩:=(k2 H1 R1.sub).get I1;have lt:∀{l:Addr} {xs:Array Value} {c:String},ip s1.heap l xs c->l<s1.heap.objs.size:=λh=>by
  rcases h with⟨_,⟨o,e,_⟩⟩ | ⟨_,⟨o,e,_⟩⟩
  ·exact aH e
  ·exact aH e
 have Uo:=lt Ks;have MC:=lt RU;refine callType_new PySem.F.called_zip (by decide) (PySem.F.typeCall_zip_2 _ _) (PySem.F.newCall_zip_2 _ _) (λobj=>Ez obj _ _) PySem.F.entry_zip_new (xZ l1 l2 ax.toArray eK.toArray (j5 c1) (j5 c2)) ⟨Ks,RU,λh1 h2 h3 h4 e1 e2 e3 e4=>?_⟩
 have z1:h1.objs.size=s1.heap.objs.size+1:=by rw[e1];exact eG ..
 have z2:h2.objs.size=s1.heap.objs.size+2:=by rw[e2,eG,z1]
 have z3:h3.objs.size=s1.heap.objs.size+3:=by rw[e3,eG,z2]
 have z4:h4.objs.size=s1.heap.objs.size+4:=by rw[e4,eG,z3]
 generalize e5:h4.push {cls:=.type "zip",data:=.fields #[.none,.bool false,.bool false,.ref h2.objs.size,.ref h3.objs.size]}=h5
 have z5:h5.objs.size=s1.heap.objs.size+5:=by rw[<-e5,eG,z4]
 have p1:∀b o,s1.heap.get? b=some o->h1.get? b=some o:=λb o e=>by rw[e1];exact aK _ e
 have p2:∀b o,h1.get? b=some o->h2.get? b=some o:=λb o e=>by rw[e2];exact aK _ e
 have p3:∀b o,h2.get? b=some o->h3.get? b=some o:=λb o e=>by rw[e3];exact aK _ e
 have p4:∀b o,h3.get? b=some o->h4.get? b=some o:=λb o e=>by rw[e4];exact aK _ e
 have p5:∀b o,h4.get? b=some o->h5.get? b=some o:=λb o e=>by rw[<-e5];exact aK _ e
 have pp:∀b o,s1.heap.get? b=some o->h5.get? b=some o:=λb o e=>p5 _ _ (p4 _ _ (p3 _ _ (p2 _ _ (p1 _ _ e))))
 have g5:IsZip h5 h4.objs.size h2.objs.size h3.objs.size .none:=by rw[<-e5];exact bL _ rfl
 have g4:IsPair h5 h3.objs.size .none .none:=p5 _ _ (by rw[e4];exact bL _ rfl)
 have g3:IsPair h5 h2.objs.size (.ref s1.heap.objs.size) (.ref h1.objs.size):=p5 _ _ (p4 _ _ (by rw[e3];exact bL _ rfl))
 have g2:h5.get? h1.objs.size=some {cls:=.type (j5 c2),data:=.fields #[.ref l2,.int 0 0]}:=p5 _ _ (p4 _ _ (p3 _ _ (by rw[e2];exact bL _ rfl)))
 have g1:h5.get? s1.heap.objs.size=some {cls:=.type (j5 c1),data:=.fields #[.ref l1,.int 0 0]}:=p5 _ _ (p4 _ _ (p3 _ _ (p2 _ _ (by rw[e1];exact bL _ rfl))))
 have sic:∀{c:Bool} {it l:Addr} {xs:Array Value},h5.get? it=some {cls:=.type (j5 c),data:=.fields #[.ref l,.int 0 0]}->ip s1.heap l xs (j5 c)->SI h5 it l 0 xs:=λ{c it l xs} e k=>by
  cases c with
  | true =>
   rcases k with⟨_,⟨o,eo,r⟩⟩ | ⟨k,_⟩
   ·exact .inl ⟨⟨_,e,rfl,rfl⟩,⟨o,pp _ _ eo,r⟩⟩
   ·exact absurd k (by decide)
  | false =>
   rcases k with⟨k,_⟩ | ⟨_,⟨o,eo,r⟩⟩
   ·exact absurd k (by decide)
   ·exact .inr ⟨⟨_,e,rfl,rfl⟩,⟨o,pp _ _ eo,r⟩⟩
 have Z:Zp h5 h4.objs.size h2.objs.size h3.objs.size s1.heap.objs.size h1.objs.size l1 l2 .none 0 ax.toArray eK.toArray:=⟨g5,g3,⟨_,_,g4⟩,sic g1 Ks,sic g2 RU,⟨by lia,by lia,by lia,by lia⟩,Uo,MC⟩
 refine⟨⟨_,g5,rfl⟩,?_⟩;have adm:=RR.length;have adn:=WY.length;have vl1:=v1.length;have vl2:=v2.length;have Zf:min ax.toArray.size eK.toArray.size=(List.zipWith fV ps qs).length:=by rw[List.length_zipWith,cC,cC];lia
 refine sx (s:={s1 with heap:=h5,toks:=s1.toks}) hh Zf.symm (dY Ad) ⟨by lia,by lia,by lia⟩ Z λh' c' kp hS hp=>?_
 have hS:h'.get? h5.objs.size=some {cls:=.type "list",dict:=none,data:=.seq (lp (h5.objs.size+1) (List.zipWith fV ps qs).length) c',slots:=#[]}:=hS
 have I2:Inv X ah σ H1 {s1 with heap:=h',toks:=s1.toks}:=I1.kept λb o e=>by
  have hb:@LT.lt Nat _ b s1.heap.objs.size:=aH e;exact kp b o (show @Ne Nat _ _ by lia) (show @Ne Nat _ _ by lia) (show @Ne Nat _ _ by lia) (show @Ne Nat _ _ by lia) (pp _ _ e)
 have fo:∀b,s1.heap.objs.size<=b->H1 b=none/\qg X ah H1 b:=λb hb=>⟨I1.hok.fresh hb,I1.u7 hb (I1.hok.fresh hb)⟩
 obtain⟨Hn,Fn,In,Rn,sn,bn,nn⟩:=ya s1.heap.objs.size (B:=h5.objs.size+1) (by lia) fo I1.sz I2 R1 v1 v2 RR WY hp _ (aF _)
 rw[List.take_length]at bn;have hnS:Hn h5.objs.size=none:=nn _ (by lia) (.inl (by lia))
 obtain⟨_,f2,f3,f4',f5,f6⟩:=(fo h5.objs.size (by lia)).2
 have I3:=Inv.adopt (D:=h5.objs.size) (o:=.lst ((List.range (List.zipWith fV ps qs).length).map λj=>V.ref (h5.objs.size+1+j))) In hnS (aY I1.sz (by lia)) f2 f5 f6
  ⟨by simp only[aU,pE];exact dY Ad,(lp (h5.objs.size+1) (List.zipWith fV ps qs).length).toList,c',DG _ _,by simpa using hS⟩
 exact⟨.ref h5.objs.size,_,I3,rfl,Tx.xV (Tx.mono hT sn λ_ _ z=>z) Rn hnS bn⟩
end
section
variable {X:Cx}
theorem vG{α:Type}(xs:List α):∀n:Nat,(List.replicate n xs).flatten.length=n*xs.length
 | 0=>by simp
 | n+1=>by rw[gA,kG,bO,vG xs n,Nat.succ_mul,Nat.add_comm]
theorem vH(ax:List Value):∀(m:Nat) (acc:List Value),List.foldl (λx1 x2=>x1++x2) acc.toArray (List.replicate m ax.toArray)=(acc++(List.replicate m ax).flatten).toArray
 | 0,acc=>by simp
 | m+1,acc=>by
  rw[gA,kR,show acc.toArray++ax.toArray=(acc++ax).toArray by simp,vH ax m,gA,kG,kH]
theorem qQ{xs:List V}{ax:List Value}(r:Vals xs ax):∀n:Nat,Vals (List.replicate n xs).flatten (List.replicate n ax).flatten
 | 0=>.nil
 | n+1=>by rw[gA,gA,kG,kG];exact r.append (qQ r n)
theorem vI{K:W.Frag}{F:Fz}{ps:List PV}{vs:List V}(r:ay K F ps vs):∀n:Nat,ay K F (List.replicate n ps).flatten (List.replicate n vs).flatten
 | 0=>.nil
 | n+1=>by rw[gA,gA,kG,kG];exact r.append (vI r n)
def US(K:W.Frag):R2:=λx y H Q=>∃l k xs,x=.ref l/\y=.int k/\iR K H l xs /\ -(2^63)<=k/\k<2^63/\xs.length*k.toNat<=sizeLine /\
 ∀p,H p=none->Q (.ref p) (cU H p (.lst (List.replicate k.toNat xs).flatten))
theorem KQ:OpR X (binaryOp .Mult) (US X.K):=by
 intro ah s σ H x y v u Q I rx ry h;obtain⟨l,k,xs,rfl,rfl,hH,h1,h2,hz,q⟩:=h;cases rx;obtain⟨t,rfl⟩:=ry;obtain⟨ax,n,r,e,z⟩:=I.lZ hH;have hl:=r.length;have eW:ax.toArray.size*k.toNat<=sizeLine:=by rw[cC,<-hl];exact hz
 have Zg:¬ax.toArray.size*k.toNat>(2^63-1)/8:=by
  have:(sizeLine:Nat)<=(2^63-1)/8:=by decide
  lia
 have T6:¬(!Builtin.List.listFitsIndex k)=true:=by
  rw[fitsIndex_both h1 h2];exact cf
 have UT:¬Builtin.List.listTooLong (ax.toArray.size*k.toNat)=true:=by
  rw[xm eW];exact cf
 have qN:List.foldl (λx1 x2=>x1++x2) #[] (List.replicate (if ax.toArray.isEmpty=true then 0 else k.toNat) ax.toArray)=(List.replicate k.toNat ax).flatten.toArray:=by
  have f0:∀m:Nat,List.foldl (λx1 x2=>x1++x2) #[] (List.replicate m ax.toArray)=(List.replicate m ax).flatten.toArray:=λm=>by
   have:=vH ax m [];rw[dH]at this;exact this
  rw[f0];cases ax with
  | nil=>simp
  | cons a r'=>rw[if_neg (by simp)]
 refine wpAny_binaryOp_repeat_ref (T:="list") (U:="int") (by decide) ⟨_,e,rfl⟩ (λs'=>pX s' k t) noFill_list_mul F.fills_int_mul F.slot_int_rmul repeat_list F.slot_int_index.lookup
  (gf F.slot_int_rmul (pX s k t) F.entry_int_rmul (F.args_int_rmul_2 _ _) (int___rmul___int_list k t l ax.toArray n)
   ⟨e,rfl,⟨_,e,rfl⟩,gf F.slot_list_mul ⟨_,e,rfl⟩ F.entry_list_mul (F.args_list_mul_2 _ _) (AutoListH.list___mul___list_int_3 l ax.toArray n k t T6 Zg UT) ⟨e,?_⟩⟩)
 rw[qN];exact⟨.ref _,_,I.OD (t':=s.toks) (qQ r k.toNat) (by rw[vG,Nat.mul_comm];exact hz),rfl,q _ I.fresh⟩
theorem DH:fillsNumberSlot (.type "tuple") "mul"=pure false:=PySem.fillsNumberSlot_seq (id:="tuple.__mul__") (r:=some (.builtin "tuple.__rmul__")) F.slot_tuple_mul.lookup (by decide +kernel) F.slot_tuple_rmul.lookup (by decide +kernel)
theorem PX:seqRepeat? (.type "tuple")=pure (some (.builtin "tuple.__mul__")):=by
  unfold seqRepeat?;rw[PySem.seqSlot_of (T:="tuple") (name:="__mul__") (id:="tuple.__mul__") F.slot_tuple_mul.lookup (by decide +kernel),PySem.seqSlot_of (T:="tuple") (name:="__rmul__") (id:="tuple.__rmul__") F.slot_tuple_rmul.lookup (by decide +kernel)]
  rfl
theorem KR(a:Int)(t:Tok)(l:Addr)(items:Array Value)(n:Nat)(MO:Option Addr)(sl:Array (Option Value)) :
    Meets (Builtin.«int.__rmul__» ⟨[.int a t,.ref l],[]⟩) (λ_ R s=>s.heap.get? l=some {cls:=.type "tuple",dict:=MO,data:=.seq items n,slots:=sl}/\R (.ok (.ret Value.notImplemented)) s) :=
  .of_wp λprog w A R s h=>by
    obtain⟨hp,g,d,tk,os⟩:=s;obtain⟨hl,h⟩:=h
    wp_walk
    exact⟨_,rfl,h⟩
theorem PY(l:Addr)(items:Array Value)(n:Nat)(u:Tok)(MO:Option Addr)(sl:Array (Option Value)) :
    Meets (Builtin.«tuple.__mul__» ⟨[.ref l,.int 1 u],[]⟩) (λ_ R s=>s.heap.get? l=some {cls:=.type "tuple",dict:=MO,data:=.seq items n,slots:=sl}/\R (.ok (.ret (.ref l))) s) :=
  .of_wp λprog w A R s h=>by
    obtain⟨hp,g,d,tk,os⟩:=s;obtain⟨hl,h⟩:=h
    wp_walk
    exact⟨_,rfl,h⟩
theorem KS(l:Addr)(items:Array Value)(n:Nat)(x:Int)(u:Tok)(MO:Option Addr)(sl:Array (Option Value))(h2:2<=x)(h3:x<=1000)(ne:items.isEmpty=false)(hz:items.size<=1000) :
    Meets (Builtin.«tuple.__mul__» ⟨[.ref l,.int x u],[]⟩) (λ_ R s=>s.heap.get? l=some {cls:=.type "tuple",dict:=MO,data:=.seq items n,slots:=sl}/\R (.ok (.ret (.ref s.heap.objs.size))) {s with heap:=s.heap.push {cls:=.type "tuple",data:=.seq (List.foldl (λx1 x2=>x1++x2) #[] (List.replicate x.toNat items))}}) :=
  .of_wp λprog w A R s h=>by
    obtain⟨hp,g,d,tk,os⟩:=s;obtain⟨hl,h⟩:=h;have hx:(items.size:Int)*x<=1000*1000:=by
      have h0:(0:Int)<=items.size:=Int.natCast_nonneg _;have h1:(items.size:Int)<=1000:=by lia
      exact Int.mul_le_mul h1 h3 (by lia) (by lia)
    have hsz:(List.foldl (λx1 x2=>x1++x2) #[] (List.replicate x.toNat items)).size<=sizeLine:=by
      rw[AutoListH.size_joined,kU];have h4:x.toNat*items.size<=1000*1000:=uM (by lia) hz
      simp
      lia
    wp_walk
    refine pN (dz ?_) ?_
    · simp
      lia
    wp_walk
    refine pN (dz ?_) ?_
    · rw[ne]
      simp
      lia
    wp_walk
    refine pN (dz ?_) ?_
    · rw[ne]
      simp
      lia
    wp_walk
    refine pN (dz ?_) ?_
    · lia
    wp_walk
    refine pN (dz ?_) ?_
    · unfold Builtin.Tuple.tupleTooMany
      rw[kU];simp
      lia
    wp_walk
    exact⟨_,rfl,h⟩
theorem KU(l:Addr)(items:Array Value)(n:Nat)(u:Tok)(MO:Option Addr)(sl:Array (Option Value))(ne:items.isEmpty=false) :
  Meets (Builtin.«tuple.__mul__» ⟨[.ref l,.int 0 u],[]⟩) (λ_ R s=>s.heap.get? l=some {cls:=.type "tuple",dict:=MO,data:=.seq items n,slots:=sl}/\R (.ok (.ret (.ref s.heap.objs.size))) {s with heap:=s.heap.push {cls:=.type "tuple",data:=.seq #[]}}) :=
 .of_wp λprog w A R s h=>by
  obtain⟨hp,g,d,tk,os⟩:=s;obtain⟨hl,h⟩:=h
  wp_walk
  exact⟨_,rfl,h⟩
theorem PZ{xs:List PV}{j:Int}(h1:0<=j)(h2:j<=1000)(h3:1<=xs.length)(h4:xs.length<=100){ah:List (Addr×Obj)}{s:Shared}{σ τ:St}{H af:Hp}{ag F:Fz}{st:bY}{x y:V}{v u:Value}{Q:V->Hp->Prop}(I:Inv X ah σ H s)(rx:RelV x v)(ry:RelV y u)(R:Rep X.K af ag F st τ H)(ba:bj X.K F (.au xs) x)(bb:bj X.K F (.int j) y)
    (k:∀v' H' F',Rep X.K af ag F' st τ H'->Gr F F'->bj X.K F' (.au (List.replicate j.toNat xs).flatten) v'->Q v' H'):wpAny (model X.prog X.w) X.A (binaryOp .Mult v u) (EP X ah σ Q) X.xe s:=by
  obtain⟨a,vs,rfl,ha,gW⟩:=bR.mp ba;rw[aG.mp bb]at ry;cases rx;obtain⟨t,rfl⟩:=ry;obtain⟨ax,r,pl,_⟩:=I.tuple (cZ R.sub ha);obtain⟨⟨cls,dd,data,sl⟩,e,hc,n,hd⟩:=id pl;simp only at hc hd;subst hc hd;have hl:=r.length;have hxl:=gW.length;refine wpAny_binaryOp_repeat_ref (T:="tuple") (U:="int") (by decide) ⟨_,e,rfl⟩ (λs'=>pX s' j t) DH PySem.F.fills_int_mul PySem.F.slot_int_rmul PX PySem.F.slot_int_index.lookup
    (gf PySem.F.slot_int_rmul (pX s j t) PySem.F.entry_int_rmul (PySem.F.args_int_rmul_2 _ _) (KR j t a ax.toArray n dd sl) ⟨e,rfl,⟨_,e,rfl⟩,?_⟩)
  have nt:ax.toArray.isEmpty=false:=by
    cases ax with
    | nil=>rw[mX]at hl;lia
    | cons _ _=>simp
  by_cases hj0:j=0
  · subst hj0
    refine gf yW ⟨_,e,rfl⟩ yU (yS _ _) (KU a ax.toArray n t dd sl nt) ⟨e,?_⟩;obtain⟨R2,s2⟩:=R.laid (.au []) I.fresh;exact⟨.ref s.heap.objs.size,_,I.laid (t':=s.toks) (o:=.au []) (λb ob q=>aK _ q) (aF _) ⟨iA _,[],.nil,n8.new _ _⟩,rfl,k _ _ _ R2 s2 (bR.mpr ⟨_,_,rfl,iC.of aA,.nil⟩)⟩
  by_cases hj:j=1
  · subst hj
    refine gf yW ⟨_,e,rfl⟩ yU (yS _ _) (PY a ax.toArray n t dd sl) ⟨e,?_⟩;refine⟨.ref a,H,I,rfl,k _ H F R (Gr.refl F) ?_⟩;simpa using ba
  · refine gf yW ⟨_,e,rfl⟩ yU (yS _ _) (KS a ax.toArray n j t dd sl (by lia) h2 nt (by rw[cC];lia)) ⟨e,?_⟩
    have qN:List.foldl (λx1 x2=>x1++x2) #[] (List.replicate j.toNat ax.toArray)=(List.replicate j.toNat ax).flatten.toArray:=by
      have:=vH ax j.toNat [];rw[dH]at this;exact this
    rw[qN];obtain⟨R2,s2⟩:=R.laid (.au (List.replicate j.toNat vs).flatten) I.fresh;have eW:(List.replicate j.toNat vs).flatten.length<=sizeLine:=by
      rw[vG,kU];have:j.toNat*vs.length<=1000*100:=uM (by lia) (by lia)
      lia
    exact⟨.ref s.heap.objs.size,_,I.laid (t':=s.toks) (o:=.au (List.replicate j.toNat vs).flatten) (λb ob q=>aK _ q) (aF _) ⟨eW,_,qQ r j.toNat,n8.new _ _⟩,rfl,k _ _ _ R2 s2 (bR.mpr ⟨_,_,rfl,iC.of aA,(vI gW j.toNat).mono s2⟩)⟩
def P0{x':Str}{j:Int}(h1:2<=j)(h2:j<=100)(h3:1<=x'.length)(h4:x'.length<=100){ah:List (Addr×Obj)}{s:Shared}{σ τ:St}{H af:Hp}{ag F:Fz}{st:bY}{x y:V}{v u:Value}{Q:V->Hp->Prop}(I:Inv X ah σ H s)(rx:RelV x v)(ry:RelV y u)(R:Rep X.K af ag F st τ H)(ba:bj X.K F (.str x') x)(bb:bj X.K F (.int j) y)
 (k:∀v' H' F',Rep X.K af ag F' st τ H'->Gr F F'->bj X.K F' (.str (Txt.mul x' j)) v'->Q v' H'):wpAny (model X.prog X.w) X.A (binaryOp .Mult v u) (EP X ah σ Q) X.xe s:=by
 rw[aG.mp bb]at ry;rw[bN.mp ba]at rx;obtain⟨t,rfl⟩:=rx;obtain⟨t',rfl⟩:=ry;refine SB.mul ⟨by simp;lia,λ_ _=>?_,λ_ _=>?_⟩ λt' m=>⟨.str _,H,I.kept (t':=m) (λ_ _ e=>e),⟨t',rfl⟩,k _ H F R (Gr.refl F) (bN.mpr rfl)⟩
 ·have:100<=(2^63-1:Int)/j:=by
   rw[Int.le_ediv_iff_mul_le (by lia)]
   lia
  lia
 ·unfold Builtin.Str.tooLong;have:x'.length*j.toNat<=100*100:=uM h4 (by lia)
  exact dz (Nat.not_lt.mpr (aY this (by decide)))
def Zh(h:List aj)(p:PV)(j:Int):Option (List PV):=(vo h p).bind λxs=>if(-1000<=j/\j<=1000/\xs.length<=100)then some (List.replicate j.toNat xs).flatten else none
noncomputable def IG:Nat:=1606938044258990275541962092341162602522202993782792835301376
theorem Av{i j:Int}(h:i.natAbs<IG/\j.natAbs<IG):IntMulOk i j:=by
 have h1:Builtin.Int.intBits i<=200:=PyProof.Rows.intBits_le (cj h.1 (by decide))
 have h2:Builtin.Int.intBits j<=200:=PyProof.Rows.intBits_le (cj h.2 (by decide))
 have hc:Builtin.Int.intTooBig (Builtin.Int.intBits i+Builtin.Int.intBits j)=false:=by
  unfold Builtin.Int.intTooBig bitsLine;exact dz (by lia)
 unfold IntMulOk;rw[hc];simp
def Zi:G2:=nA (λi j=>decide (((-ot<i/\i<ot)\/(-ot<j/\j<ot))\/(i.natAbs<IG/\j.natAbs<IG))) λi j=>.int (i*j)
theorem GR:oV X (binaryOp .Mult) Zi:=eX (C:=IntMulOk) (SS λ_ _ _ _ _ _ _ hc q=>mul_int q hc) (λi j e=>by
 rcases iy e with h | h
 ·exact Js.ok h
 ·exact Av h) λ_ _ _=>aG.mpr rfl
def jG:G2:=λh p q=>match p,q with
 | .int i,.int j=>if(((-ot<i/\i<ot)\/(-ot<j/\j<ot))\/(i.natAbs<IG/\j.natAbs<IG))then some (.int (i*j))else none
 | .nd .au xs,.int j=>if(0<=j/\j<=1000/\1<=xs.length/\xs.length<=100)then some (.au (List.replicate j.toNat xs).flatten)else none
 | .str x,.int j=>if(2<=j/\j<=100/\1<=x.length/\x.length<=100)then some (.str (Txt.mul x j))else none
 | p,.int j=>(Zh h p j).map .lst
 | _,_=>none
theorem P1{xs:List PV}{vs:List V}{F:Fz}{j:Int}(h:-1000<=j/\j<=1000/\xs.length<=100)(b:ay X.K F xs vs):-(2^63)<=j/\j<2^63/\vs.length*j.toNat<=sizeLine:=by
 refine⟨by lia,by lia,?_⟩
 have:=b.length;rw[kU];have:vs.length*j.toNat<=100*1000:=uM (by lia) (by lia)
 lia
theorem GS:oV X (binaryOp .Mult) jG:=by
 intro ah s σ H x y v u Q I rx ry ⟨af,ag,F,st,τ,pa,pb,p,e,R,ba,bb,k⟩;unfold jG at e;split at e
 ·rename_i i j;obtain⟨hc,rfl⟩:=aE e;exact GR ah s σ H x y v u Q I rx ry ⟨af,ag,F,st,τ,.int i,.int j,.int (i*j),(show(if decide (((-ot<i/\i<ot)\/(-ot<j/\j<ot))\/(i.natAbs<IG/\j.natAbs<IG))=true then some (PV.int (i*j))else none)=_ from if_pos (eS hc)),R,ba,bb,k⟩
 ·obtain⟨⟨h1,h2,h3,h4⟩,rfl⟩:=aE e;exact PZ h1 h2 h3 h4 I rx ry R ba bb k
 ·obtain⟨⟨h1,h2,h3,h4⟩,rfl⟩:=aE e;exact P0 h1 h2 h3 h4 I rx ry R ba bb k
 ·obtain⟨qs,e1,rfl⟩:=aP e;obtain⟨xs,e2,e1⟩:=aO e1;obtain⟨hc,rfl⟩:=aE e1;obtain⟨a,vs,rfl,ha,gW⟩:=R.at (fJ e2) ba;obtain⟨c1,c2,c3⟩:=P1 hc gW;refine KQ ah s σ H _ y v u Q I rx ry ⟨a,_,vs,rfl,aG.mp bb,ha,c1,c2,c3,λp hp=>?_⟩
  obtain⟨R2,s2⟩:=R.laid (.lst (List.replicate _ vs).flatten) hp;exact k _ _ _ R2 s2 (dA.mpr ⟨p,_,rfl,iR.of aA,(vI gW _).mono s2⟩)
 ·cases e
def KW(op:Operator):Option G2:=match op with
 | .Mult=>some jG
 | op=>OX op
theorem GU{op:Operator}{g:G2}(h:KW op=some g):oV X (binaryOp op) g:=by
 cases op<;>first | (cases h;exact GS) | exact J0 h
end
def Itz(K:W.Frag)(c1 c2:Bool)(l1 l2:Addr):It where
 go:=λi H=>∃vs ws v w,rW K H c1 l1 vs/\rW K H c2 l2 ws/\vs[i]?=some v/\ws[i]?=some w
 yld:=λi H x H'=>∃T v w,H T=none/\x=.ref T/\H'=cU H T (.au [v,w])/\∀vs ws,rW K H c1 l1 vs->rW K H c2 l2 ws->vs[i]?=some v/\ws[i]?=some w
 stop:=λi H=>∃vs ws,rW K H c1 l1 vs/\rW K H c2 l2 ws/\(vs.length<=i\/ws.length<=i)
def zTn(z TI TO i1 i2 l1 l2:Nat)(c1 c2:Bool)(i:Nat)(h:Heap):Prop:=IsZip h z TI TO .none/\IsPair h TI (.ref i1) (.ref i2)/\(∃a b,IsPair h TO a b)/\Ep h c1 i1 l1 i/\Ep h c2 i2 l2 i
theorem GV{P:Program}{w:World}{K:W.Frag}{elts:List Expr}{x1:Nat}{qo:Pos}{z TI TO i1 i2 l1 l2:Nat}{c1 c2:Bool}(ord:i1<i2/\i2<TI/\TI<TO/\TO<z)(o1:l1<i1)(o2:l2<i1) :
  Turn P w K (.Tuple elts x1 qo) (Itz K c1 c2 l1 l2) [z,TI,TO,i1,i2] z (zTn z TI TO i1 i2 l1 l2 c1 c2) where
 mem:=dw
 obj:=by
  rintro i h ⟨a1,a2,⟨_,_,a3⟩,a4,a5⟩ b hb
  simp only[aC,bB,bD]at hb;rcases hb with rfl | rfl | rfl | rfl | rfl
  ·exact⟨_,a1,λv=>by simp⟩
  ·exact⟨_,a2,λv=>by simp⟩
  ·exact⟨_,a3,λv=>by simp⟩
  ·exact a4.obj
  ·exact a5.obj
 keep:=λi h h' ⟨a1,a2,⟨p,q,a3⟩,a4,a5⟩ k=>⟨k z (by simp) _ a1,k TI (by simp) _ a2,⟨p,q,k TO (by simp) _ a3⟩,a4.at λo e=>k i1 (by simp) o e,a5.at λo e=>k i2 (by simp) o e⟩
 item:=by
  rintro X hP hw hK hc i ah s σ H E I hf ⟨a1,a2,a3,a4,a5⟩ ⟨vs,ws,v,w',hv,WZ,ev,ew⟩
  subst hP hw hK;obtain⟨ax,r1,k1⟩:=hv.get I;obtain⟨eK,r2,k2⟩:=WZ.get I;obtain⟨x,ex,rx⟩:=r1.get ev;obtain⟨y,ey,ry⟩:=r2.get ew;have Z:Zp s.heap z TI TO i1 i2 l1 l2 .none i ax.toArray eK.toArray:=⟨a1,a2,a3,tF a4 k1,tF a5 k2,ord,o1,o2⟩;have hT:s.TypeIs (.ref z) "zip":=⟨_,a1,rfl⟩;unfold pyNext;refine ai (kT (fZ (name:=Str.ofString "__next__") hT f9 (fE f9 hT mW
   (B3 Z (by simpa using ex) (by simpa using ey) λh' Z' MV Ud kp=>ar ⟨_,rfl,?_⟩) (mV _))))
  refine wpAny_letOwnedTupleGo_zip Z'.hz λIE Zj sb=>?_
  have Uj:∀b∈[z,TI,TO,i1,i2],b<s.heap.objs.size:=λb hb=>by
   simp only[aC,bB,bD]at hb;have h1:=aH a1;have h2:z<s.heap.objs.size:=h1;obtain⟨q1,q2,q3,q4⟩:=ord;rcases hb with rfl | rfl | rfl | rfl | rfl<;>lia
  have zT:z≠s.heap.objs.size:=bC (Uj z (by simp))
  have Uk:∀b o,b∉[z,TI,TO,i1,i2]->s.heap.get? b=some o->IE.get? b=some o:=λb o hb e=>by
   simp only[aC,bB,bD,not_or]at hb;exact sb.extBut _ _ hb.1 (kp b o hb.1 hb.2.2.1 hb.2.2.2.1 hb.2.2.2.2 e)
  have I1:Inv X ah σ H {s with heap:=IE,toks:=s.toks}:=Inv.turns I hf Uk
  have hn:H s.heap.objs.size=none:=I.fresh;have Kq:=I.u7 (H':=H) (aF _) hn;have pr:IsPair IE s.heap.objs.size x y:=sb.extBut _ _ (bU zT) MV;have I2:=Inv.adopt (D:=s.heap.objs.size) (o:=.au [v,w']) I1 hn (by
    rcases Kq.2.2.2.1 with q | q
    ·exact I.sz
    ·exact q) Kq.2.1 Kq.2.2.2.2.1 Kq.2.2.2.2.2 ⟨(by show 2<=sizeLine;decide),[x,y],.cons rx (.cons ry .nil),⟨_,pr,rfl,⟨0,rfl⟩,rfl⟩⟩
  refine⟨.ref s.heap.objs.size,_,I2,rfl,⟨s.heap.objs.size,v,w',hn,rfl,rfl,λwM ws' h1 h2=>?_⟩,⟨Zj,sb.extBut _ _ (by first | exact nl (by lia) | exact ng (by lia)) Z'.hTI,?_,?_,?_⟩,λb hb=>?_⟩
  ·rw[<-rW.inj I hv h1,<-rW.inj I WZ h2];exact⟨ev,ew⟩
  ·obtain⟨p,q,e⟩:=Z'.hTO;exact⟨p,q,sb.extBut _ _ (by first | exact nl (by lia) | exact ng (by lia)) e⟩
  ·have q:=vB (k':=i) Z'.s1 k1 λo e=>kp l1 o (by first | exact nl (by lia) | exact ng (by lia)) (by first | exact nl (by lia) | exact ng (by lia)) (by first | exact nl (by lia) | exact ng (by lia)) (by first | exact nl (by lia) | exact ng (by lia)) e
   exact q.at λo e=>sb.extBut _ _ (by first | exact nl (by lia) | exact ng (by lia)) e
  ·have q:=vB (k':=i) Z'.s2 k2 λo e=>kp l2 o (by first | exact nl (by lia) | exact ng (by lia)) (by first | exact nl (by lia) | exact ng (by lia)) (by first | exact nl (by lia) | exact ng (by lia)) (by first | exact nl (by lia) | exact ng (by lia)) e
   exact q.at λo e=>sb.extBut _ _ (by first | exact nl (by lia) | exact ng (by lia)) e
  ·rw[aN (bC (Uj b hb))];exact(hf b hb).1
 done:=by
  rintro X hP hw hK hc i ah s σ H E I hf ⟨a1,a2,a3,a4,a5⟩ ⟨vs,ws,hv,WZ,he⟩
  subst hP hw hK;obtain⟨ax,r1,k1⟩:=hv.get I;obtain⟨eK,r2,k2⟩:=WZ.get I;have Z:Zp s.heap z TI TO i1 i2 l1 l2 .none i ax.toArray eK.toArray:=⟨a1,a2,a3,tF a4 k1,tF a5 k2,ord,o1,o2⟩;have hT:s.TypeIs (.ref z) "zip":=⟨_,a1,rfl⟩;have xY:ax.toArray[i]?=none\/eK.toArray[i]?=none:=by
   rcases he with q | q
   ·exact .inl (kD (by rw[cC,<-r1.length];exact q))
   ·exact .inr (kD (by rw[cC,<-r2.length];exact q))
  unfold pyNext;refine ai (kT (fZ (name:=Str.ofString "__next__") hT f9 (fE f9 hT mW (GP (I.ok.hd hc) Z xY λh' e kp ⟨o,ho,hcl⟩=>?_) (mV _))))
  refine ai (kM (T:="StopIteration") (b:=true) ⟨o,ho,hcl⟩ uN (ar ⟨rfl,?_⟩));exact Inv.turns (t':=s.toks) I hf λb o hb e=>by
   simp only[aC,bB,bD,not_or]at hb;exact kp b o hb.1 hb.2.2.1 hb.2.2.2.1 hb.2.2.2.2 e
 self:=λA i s Q E ⟨a1,_⟩ q=>zu a1 q
theorem GW{K:W.Frag}{F:Fz}{c1 c2:Bool}{l1 l2:Addr}{ps qs:List PV}{vs ws:List V}(k1:∀F',cw F.F F'->rW K F' c1 l1 vs)(k2:∀F',cw F.F F'->rW K F' c2 l2 ws)(b1:ay K F ps vs)(b2:ay K F qs ws):Walk K F (List.zipWith fV ps qs) (Itz K c1 c2 l1 l2):=by
 intro af ag F' ρ σ H R s i;have h1:=k1 H (s.s.trans R.sub);have h2:=k2 H (s.s.trans R.sub);refine⟨λp e=>?_,λe=>?_⟩
 ·rw[List.getElem?_zipWith]at e;cases z1:ps[i]? with
  | none=>rw[z1]at e;cases e
  | some p1 =>
   cases z2:qs[i]? with
   | none=>rw[z1,z2]at e;cases e
   | some p2 =>
    rw[z1,z2]at e;cases e;obtain⟨v,e1,YK⟩:=b1.get z1;obtain⟨w,e2,c2'⟩:=b2.get z2;refine⟨⟨vs,ws,v,w,h1,h2,e1,e2⟩,λx H' ⟨T,v',w',hn,hx,hH,hall⟩=>?_⟩
    obtain⟨g1,g2⟩:=hall vs ws h1 h2;rw[e1]at g1;rw[e2]at g2;cases g1;cases g2;subst hx hH;obtain⟨R2,s2⟩:=R.laid (.au [v,w]) hn;exact⟨_,R2,s2,bR.mpr ⟨T,[v,w],rfl,iC.of aA,.cons (YK.mono (s.trans s2)) (.cons (c2'.mono (s.trans s2)) .nil)⟩⟩
 ·refine⟨vs,ws,h1,h2,?_⟩;have:=hJ.mp e;rw[List.length_zipWith,b1.length,b2.length]at this
  lia
section
variable {X:Cx} {af:Hp} {ag:Fz} {a b tg:Expr} {fa fb:Gx PV} {pos p:Pos}
def P2(p q:PV):Option (List PV):=(oy p).bind λps=>(oy q).map λqs=>List.zipWith fV ps qs
def P4(fa fb:Gx PV):Gx (List PV):=bnd fa λp=>bnd fb λq=>jT (P2 p q)
theorem UU(ht:BJ tg=true)(hg:Gl X "zip")(hm:X.mg "zip"=none)(ha:PE X a (tE X af ag fa))(hb:PE X b (tE X af ag fb))(hs:starEach [a,b] X.env=(false,eval a X.env)::starEach [b] X.env)(Fs:starEach [b] X.env=[(false,eval b X.env)]) :
  PI X tg (.Call (.Name "zip" p) [a,b] [] pos) (tI X af ag (P4 fa fb)):=by
 rintro ah s σ H R I ⟨F,st,Rp,h⟩
 have hA:=gV ha (gV hb qp Fs) hs pos ah s σ H (λvs H'=>∃F' st' x y pa pb ps qs,vs=[x,y]/\Rep X.K af ag F' st' σ H'/\bj X.K F' pa x/\bj X.K F' pb y/\oy pa=some ps/\oy pb=some qs/\∀b Ul FL,Rep X.K af ag FL st' σ Ul->Gr F' FL->Walk X.K FL (List.zipWith fV ps qs) b->R b Ul) I
  ⟨F,st,Rp,h.bnd λp v F1 st1 H1 R1 g1 b1 h1=>⟨F1,st1,R1,h1.bnd λq w F2 dG H2 R2 g2 b2 h2=>by
   obtain⟨o,e,z⟩:=h2.jT;obtain⟨ps,e1,e⟩:=aO e;obtain⟨qs,e2,rfl⟩:=aP e;exact⟨F2,dG,v,w,p,q,ps,qs,rfl,R2,b1.mono g2,b2,e1,e2,z⟩⟩⟩
 refine Call_ (ld_blt I hg hm boot_zip (kx (thn hA λus s1 z9=>?_) hs (by rw[Fs];rfl)))
 obtain⟨vs,H1,I1,r1,F1,st1,x,y,pa,pb,ps,qs,ev,R1,b1,b2,f3,f4,q⟩:=z9;subst ev;obtain⟨u1,u2,rfl,Um,Ze⟩:=Fq r1;obtain⟨c1,l1,vs1,rfl,q1,RR,k1⟩:=jC f3 b1;obtain⟨c2,l2,vs2,rfl,q2,WY,k2⟩:=jC f4 b2;cases Um;cases Ze;obtain⟨ax,v1,Ks⟩:=(k1 H1 R1.sub).get I1;obtain⟨eK,v2,RU⟩:=(k2 H1 R1.sub).get I1;have lt:∀{l:Addr} {xs:Array Value} {c:String},ip s1.heap l xs c->l<s1.heap.objs.size:=λh=>by
  rcases h with⟨_,⟨o,e,_⟩⟩ | ⟨_,⟨o,e,_⟩⟩
  ·exact aH e
  ·exact aH e
 have Uo:=lt Ks;have MC:=lt RU;refine callType_new PySem.F.called_zip (by decide) (PySem.F.typeCall_zip_2 _ _) (PySem.F.newCall_zip_2 _ _) (λobj=>Ez obj _ _) PySem.F.entry_zip_new (xZ l1 l2 ax.toArray eK.toArray (j5 c1) (j5 c2)) ⟨Ks,RU,λh1 h2 h3 h4 e1 e2 e3 e4=>?_⟩
 have z1:h1.objs.size=s1.heap.objs.size+1:=by rw[e1];exact eG ..
 have z2:h2.objs.size=s1.heap.objs.size+2:=by rw[e2,eG,z1]
 have z3:h3.objs.size=s1.heap.objs.size+3:=by rw[e3,eG,z2]
 have z4:h4.objs.size=s1.heap.objs.size+4:=by rw[e4,eG,z3]
 generalize e5:h4.push {cls:=.type "zip",data:=.fields #[.none,.bool false,.bool false,.ref h2.objs.size,.ref h3.objs.size]}=h5
 have p1:∀b o,s1.heap.get? b=some o->h1.get? b=some o:=λb o e=>by rw[e1];exact aK _ e
 have p2:∀b o,h1.get? b=some o->h2.get? b=some o:=λb o e=>by rw[e2];exact aK _ e
 have p3:∀b o,h2.get? b=some o->h3.get? b=some o:=λb o e=>by rw[e3];exact aK _ e
 have p4:∀b o,h3.get? b=some o->h4.get? b=some o:=λb o e=>by rw[e4];exact aK _ e
 have p5:∀b o,h4.get? b=some o->h5.get? b=some o:=λb o e=>by rw[<-e5];exact aK _ e
 have g5:IsZip h5 h4.objs.size h2.objs.size h3.objs.size .none:=by rw[<-e5];exact bL _ rfl
 have g4:IsPair h5 h3.objs.size .none .none:=p5 _ _ (by rw[e4];exact bL _ rfl)
 have g3:IsPair h5 h2.objs.size (.ref s1.heap.objs.size) (.ref h1.objs.size):=p5 _ _ (p4 _ _ (by rw[e3];exact bL _ rfl))
 have g2:h5.get? h1.objs.size=some {cls:=.type (j5 c2),data:=.fields #[.ref l2,.int 0 0]}:=p5 _ _ (p4 _ _ (p3 _ _ (by rw[e2];exact bL _ rfl)))
 have g1:h5.get? s1.heap.objs.size=some {cls:=.type (j5 c1),data:=.fields #[.ref l1,.int 0 0]}:=p5 _ _ (p4 _ _ (p3 _ _ (p2 _ _ (by rw[e1];exact bL _ rfl))))
 have itc:∀{c:Bool} {it l:Addr},h5.get? it=some {cls:=.type (j5 c),data:=.fields #[.ref l,.int 0 0]}->Ep h5 c it l 0:=λ{c it l} e=>by
  cases c with
  | true=>exact(show h5.IsListIter it l 0 from⟨_,e,rfl,rfl⟩)
  | false=>exact(show h5.IsTupleIter it l 0 from⟨_,e,rfl,rfl⟩)
 have I2:Inv X ah σ H1 {s1 with heap:=h5,toks:=s1.toks}:=I1.kept λb o e=>p5 _ _ (p4 _ _ (p3 _ _ (p2 _ _ (p1 _ _ e))))
 have lN:∀b,s1.heap.objs.size<=b->H1 b=none:=λb hb=>I1.hok.fresh hb
 refine⟨⟨_,g5,rfl⟩,?_⟩;show wpAny _ _ (pyIter (.ref h4.objs.size)) _ _ {s1 with heap:=h5,toks:=s1.toks}
 refine zu g5 ?_;cases tg with
 | Tuple elts x1 qo =>
  refine⟨h4.objs.size,[h4.objs.size,h2.objs.size,h3.objs.size,s1.heap.objs.size,h1.objs.size],_,_,H1,rfl,I2,GV (TI:=h2.objs.size) (TO:=h3.objs.size) (i1:=s1.heap.objs.size) (i2:=h1.objs.size) (l1:=l1) (l2:=l2) (c1:=c1) (c2:=c2) ⟨by lia,by lia,by lia,by lia⟩ Uo MC,⟨g5,g3,⟨_,_,g4⟩,itc g1,itc g2⟩,λb hb=>?_,q _ H1 F1 R1 (Gr.refl _) (GW k1 k2 RR WY)⟩
  simp only[aC,bB,bD]at hb;have Up:s1.heap.objs.size<=b:=by rcases hb with rfl | rfl | rfl | rfl | rfl<;>lia
  have fo:=I1.u7 (H':=H1) Up (lN b Up);exact fo
 | _=>cases ht
end
end L2.U
namespace L2
open PySem PySem.Spec PyProof.Rows
section
variable {prog:Program} {w:World} {A:Around} {E:Value->Shared->Prop} {s:Shared} {K:W.Frag} {x dx C f:Addr} {mA:Str->Option Value} {name:Str} {v:Value}
theorem GX{pl:Sem Bool}{Q:Value×List Value->Shared->Prop}(X:K.In s.heap)(I:zW s.heap x dx C mA)(hg:W.plainGet K C name=true)
    (hf:W.findIn K (.ref C) name=some (some (.ref f))) (ht:W.isFn K (.ref f)=true) (hv:mA name=none) (h:Q (.ref f,[.ref x]) s) :
    wpAny (model prog w) A (getMethod (.ref x) name pl) Q E s:=by
  obtain⟨od,J,hl⟩:=I.kZ;exact W.method_fn X J (W.plainGet_of hg).1 (W.plainGet_of hg).2 hf (pY.mp ht) (by show(W.lookIn name od).map (·.isSome)=some false;rw[hl,hv];rfl) h
end
section
variable {X:Cx} {ah:List (Addr×Obj)} {σ:St} {H:Hp} {s:Shared} {a C dx:Addr} {fs:List (Str×V)} {f:Str} {v:V} {A:Around} {E:Value->Shared->Prop}
theorem Aw{m:Str}{g:Addr}{pl:Sem Bool}{Q:Value×List Value->Shared->Prop}(I:Inv X ah σ H s)(e:H a=some (.ins C dx fs))(c:rY X.K C)(k:EB X.K C m g)(l:fs.lookup m=none)
    (h:Q (.ref g,[.ref a]) s):wpAny (model X.prog X.w) A (getMethod (.ref a) m pl) Q E s:=by
  obtain⟨mA,O,r,_,_,_⟩:=vc I.hok e;have hn:mA m=none:=nZ.none_of (by rw[<-l];exact r m)
  exact GX I.og O (c.get m) k.at_ k.fn hn h
end
section
variable {X:Cx} {o e value:Expr} {f:Str} {pos oh qo:Pos} {ta tv:TE}
theorem nT{pl:Sem Bool}{m:Str}{eP:Pos}{args:List Expr}{ah:List (Addr×Obj)}{s:Shared}{σ:St}{H:Hp}{Q:Value->Shared->Prop}{te:TE}(he:PE X e te)(I:Inv X ah σ H s)
    (h:te σ H λx H1=>∃a C dx fs g,x=.ref a/\H1 a=some (.ins C dx fs)/\rY X.K C/\EB X.K C m g/\fs.lookup m=none /\
      ∀s1,Inv X ah σ H1 s1->wpAny (model X.prog X.w) X.A (callWith pos (.ref g) [.ref a] (backTo pos (starEach args X.env)) (backToKw pos (keywordEach [] X.env))) Q X.xe s1)
    (ht:eval (.Call (.Attribute e m eP) args [] pos) X.env=(do
      let ov <-eval e X.env
      standAt eP.atName
      let (f,first) <-holding [ov] (getMethod ov m pl)
      callWith pos f first (backTo pos (starEach args X.env)) (backToKw pos (keywordEach [] X.env)))) :
    wpAny (model X.prog X.w) X.A (eval (.Call (.Attribute e m eP) args [] pos) X.env) Q X.xe s:=by
  refine W.methodCall_KW (pl:=pl) (thn (he ah s σ H _ I h) λu s1 ⟨x,H1,I1,rx,a,C,dx,fs,g,ex,ea,c,k,l,q⟩=>?_) ht
  subst ex;obtain rfl:u=Value.ref a:=rx;exact Aw I1 ea c k l (q s1 I1)
end
section
def Zk(X:Cx)(op:Operator)(rd:V->V->Hp->VK->Prop):Prop :=
  ∀(ah:List (Addr×Obj)) (s:Shared) (σ:St) (H:Hp) (x y:V) (u v:Value) (Q:VK),Inv X ah σ H s->RelV x u->RelV y v->rd x y H Q->wpAny (model X.prog X.w) X.A (inplaceOp op u v) (EP X ah σ Q) X.xe s
end
section
def KY(K:W.Frag)(ta tv:TE)(rd:V->V->Hp->VK->Prop)(f:Str):TS:=λD σ H=>ta σ H λx H1=>∃a C dx fs v,x=.ref a/\H1 a=some (.ins C dx fs)/\rY K C/\gD K C f/\fs.lookup f=some v /\
  tv σ H1 λy H2=>rd v y H2 λz H3=>∃UW Mh,H3 a=some (.ins C UW Mh)/\Mh.length<1000/\D.nx σ (cU H3 a (.ins C UW (gS f z Mh)))
end
section
variable {X:Cx} {o e value:Expr} {f:Str} {pos oh qo:Pos} {ta tv:TE}
theorem DI{op:Operator}{rd:V->V->Hp->VK->Prop}(ha:PE X o ta)(hv:PE X value tv)(hop:Zk X op rd):PS X (.AugAssign (.Attribute o f qo) op value pos) (KY X.K ta tv rd f):=by
  intro ah s σ H D I h;refine wpAny_AugAssign_AttributeAny (thn (ha ah s σ H _ I h) λov s1 ⟨x,H1,I1,rx,a,C,dx,fs,v,ex,ea,c,n,l,q⟩=>?_)
  subst ex;obtain rfl:ov=Value.ref a:=rx;refine qk I1 ea c n l λu s2 I2 ru=>thn (hv ah s2 σ H1 _ I2 q) λw3 s3 ⟨y,H2,I3,ry,q3⟩=>thn (hop ah s3 σ H2 v y u w3 _ I3 ru ry q3) λw4 s4 ⟨z,H3,I4,rz,UW,Mh,ea',l',q4⟩=>?_
  exact qm I4 ea' c n l' rz λs5 I5=>⟨σ,_,I5,q4⟩
end
section
variable {X:Cx} {CX:CO} {k:Nat} {f C:Addr} {fd:FuncData} {ps:List Str} {sp:Sp} {jr:List V} {ds:List Value} {E:XK} {x m:Str} {p pos eP:Pos} {e o:Expr} {es:List Expr} {ta:TE} {t:TA}
theorem GY(M:Mk X.K C f)(F:FnOk X.prog X.w X.K X.mg X.base CX k f fd ps sp)(hr:c7 (k+1) X.A)(hg:Gl X x)(hm:X.mg x=some (.ref C))(hb:cL X.K fd ps ds)(hd:Vals jr ds)(hx:vd CX X E)
    (zO:(x==("__debug__":Str))=false:=by decide):PE X (.Call (.Name x p) [] [] pos) (Bp C sp jr E Oo):=by
  intro ah s σ H Q I h;refine mU (ld_glob I hg hm ?_ zO);exact W.callWith_K0 I.og M.kp (xh (us:=[]) M F hr hb hd hx I .nil h)
end
section
theorem Vals.dropLast{xs:List V}{us:List Value}(h:Vals xs us):Vals xs.dropLast us.dropLast:=by
  induction h with
  | nil=>exact .nil
  | cons r t ih =>
    cases t with
    | nil=>exact .nil
    | cons q t'=>exact .cons r ih
end
section
theorem Ax{α:Type}(l:List α):l.eraseIdx (l.length-1)=l.dropLast:=by
  induction l with
  | nil=>rfl
  | cons a r ih =>
    cases r with
    | nil=>rfl
    | cons b r =>
      have e:(a::b::r).length-1=((b::r).length-1)+1:=by
        have h1:(a::b::r).length=r.length+2:=rfl;have h2:(b::r).length=r.length+1:=rfl
        lia
      rw[e,List.eraseIdx_cons_succ,ih]
      all_goals rfl
end
section
variable {X:Cx}
def MW:V->List V->Hp->VK->Prop:=λx vs H Q=>∃l xs y,x=.ref l/\vs=[]/\H l=some (.lst xs)/\xs[xs.length-1]?=some y/\Q y (cU H l (.lst xs.dropLast))
end
section
variable {X:Cx}
theorem KZ:Yi X "list.pop" MW:=by
  intro ah s σ H x vs v us Q I rx rv h;obtain⟨l,xs,y,rfl,rfl,hH,hy,q⟩:=h;cases rx;have hus:=rv.zero;subst hus;obtain⟨z,ax,n,r,hl,e⟩:=I.dN hH;obtain⟨u,hu,ru⟩:=r.get hy;have hy':ax.toArray[ax.toArray.size-1]?=some u:=by
    show ax.toArray[ax.length-1]?=some u;rw[<-y9,<-hl];exact hu
  refine gf F.slot_list_pop ⟨_,e,rfl⟩ F.entry_list_pop (F.args_list_pop_1 _) (MeetsSeq.list_pop_last l ax.toArray n u hy' (by rw[cC];lia)) ⟨e,?_⟩
  refine⟨y,_,I.OC (its':=ax.dropLast) hH e ?_ r.dropLast ?_,ru,q⟩
  · show ax.toArray.eraseIdxIfInBounds (ax.toArray.size-1)=ax.dropLast.toArray
    rw[cC,List.eraseIdxIfInBounds_toArray,Ax]
  · rw[List.length_dropLast]
    lia
end
end L2
namespace L2.U
open PySem PySem.Spec PyProof.Rows
section
variable {X:Cx} {af:Hp} {ag:Fz} {e o:Expr} {es:List Expr} {ts:Gx (List PV)} {fo:Gx PV} {pos p eP:Pos} {k n:Nat} {f:Addr} {fd:FuncData} {ps:List Str} {x m:Str} {g:jW} {ds:List PV} {jr:List V} {p6:List Value}
def o6{CX:CO}{sp:Sp}{E:XK}{ah:List (Addr×Obj)}{σ:St}{H:Hp}{s:Shared}{Q:VK}{us:List Value}{vs:List V}(F:FnOk X.prog X.w X.K X.mg X.base CX k f fd ps sp)(hr:c7 k X.A)(hb:cL X.K fd ps p6)(hd:Vals jr p6)(hx:∀e s',CX X.stack H s E e s'->X.xe e s')
  (I:Inv X ah σ H s) (r:Vals vs us) (h:sp (vs++jr) H Q E):wpAny (model X.prog X.w) X.A (call (.ref f) us) (EP X ah σ Q) X.xe s:=by
 have r2:Vals (vs++jr) (us++p6):=r.append hd;have RN:=hb s us I.og (by rw[<-r2.length];exact F.len _ _ _ _ h)
 refine wpAny_call (pT (F.run X.A X.stack s H ⟨us,[]⟩ (us++p6) (vs++jr) Q E hr I.Ot RN r2 h) λr s' hq=>?_)
 cases r with
 | error e=>exact hx e s' hq
 | ok fl =>
  cases fl with
  | ret u=>exact I.after hq
  | next=>exact False.elim hq
  | brk=>exact False.elim hq
  | cont=>exact False.elim hq
def UX(G:FnOk X.prog X.w X.K X.mg X.base (ij X.prog X.w) k f fd ps (tJ X.K n g))(hr:c7 k X.A)(hb:cL X.K fd ps p6)(hd:Vals jr p6)(bd:∀F,ay X.K F ds jr):Aq X f (λas=>ig n g (as++ds)):=by
 rintro af H ag F st σ ah s Q as us vs I R b r ⟨q,e1,e2⟩
 obtain⟨hl,e1⟩:=bT e1;obtain⟨⟨rs,h'⟩,e3,e4⟩:=aP e1;subst e4;obtain⟨C,full⟩:=R.c.enter;have b2:=b.append (bd F);cases rs with
 | ok p'=>exact o6 G hr hb hd (λe s' hx=>td ah σ H s e s' I hx) I r ⟨_,F,st.h,as++ds,_,h',C,full,b2,hl,e3,λv F' H' D b'=>e2 v H' F' ⟨R.c.leave D,R.l.mono D.base⟩ D.base b'⟩
 | ex m c=>exact thn (o6 (Q:=λ_ _=>False) G hr hb hd (λe s' hx=>e2 σ ah H s e s' I hx) I r ⟨_,F,st.h,as++ds,_,h',C,full,b2,hl,e3,λcls F' H' D hc=>⟨hc,F',⟨R.c.leave D,R.l.mono D.base⟩,D.base⟩⟩) (by rintro v s3 ⟨_,_,_,_,z⟩;exact z.elim)
def UY(G:FnOk X.prog X.w X.K X.mg X.base (ij X.prog X.w) k f fd ps (tJ X.K n g))(hr:c7 k X.A)(hb:cL X.K fd ps p6)(hd:Vals jr p6)(bd:∀F,ay X.K F ds jr):Aq X f (λas=>jE n g (as++ds)):=by
 rintro af H ag F st σ ah s Q as us vs I R b r ⟨q,e1,e2⟩
 obtain⟨⟨hl,hn⟩,e1⟩:=bT e1;obtain⟨⟨rs,h'⟩,e3,e4⟩:=aO e1;have full:∀b o,H b=some o->H b=some o\/∃n:Nat,(Fz.mk F.F []).μ[n]?=some b:=by grind
 have b3:=tK R hn (b.append (bd F)) [];cases rs with
 | ok p' =>
  obtain⟨p2,e5,e6⟩:=aP e4;subst e6;refine o6 G hr hb hd (λe s' hx=>td ah σ H s e s' I hx) I r ⟨H,⟨F.F,[]⟩,[],as++ds,_,h',R.c.pure,full,b3,hl,e3,λv F' H' D b'=>?_⟩
  obtain⟨R3,g3⟩:=R.back (cw.refl _) D;exact e2 v H' _ R3 g3 (xN F.μ D e5 b')
 | ex m c =>
  cases e4;refine thn (o6 (Q:=λ_ _=>False) G hr hb hd (λe s' hx=>e2 σ ah H s e s' I hx) I r ⟨H,⟨F.F,[]⟩,[],as++ds,_,h',R.c.pure,full,b3,hl,e3,λcls F' H' D hc=>?_⟩) (by rintro v s3 ⟨_,_,_,_,z⟩;exact z.elim)
  obtain⟨R3,g3⟩:=R.back (cw.refl _) D;exact⟨hc,_,R3,g3⟩
noncomputable def K1(C:Str)(n:Nat)(g:jW)(as:List PV):Gx PV:=λst=>if as.length+1=n then(g (.ref st.h.length::as) (st.h++[⟨.ins C [],[]⟩])).bind λr=>match r with
 | (.ok .aL,h')=>some (.ok (.ref st.h.length),⟨st.ρ,h'⟩)
 | _=>none else none
def UZ(C:Str)(n:Nat)(g:jW)(ts:Gx (List PV)):Gx PV:=bnd ts (K1 C n g)
variable {C:Str} {Ca:Addr}
def B7(hC:ClsAt X.K C (.ref Ca))(c:rY X.K Ca)(h:tE X af ag (UZ C n g ts) σ H Q):Bp Ca (tJ X.K n g) [] E0 (tA X af ag ts) σ H Q:=by
 obtain⟨F,st,R,h⟩:=h;refine⟨F,st,R,h.bnd λas vs F1 st1 H1 R1 g1 b1 h1 y dx hy hdx fj=>?_⟩
 obtain⟨q,e1,e2⟩:=h1;obtain⟨hl,e1⟩:=bT e1;obtain⟨r,e3,e4⟩:=aO e1;have hyd:cU H1 dx (.own y) y=none:=by rw[aN fj.symm];exact hy
 have up:cw H1 (cU H1 dx (.own y)):=fR hdx;have R2:Rep X.K af ag F1 st1 σ (cU H1 dx (.own y)):=R1.after (F':=F1) up (cw.refl _) rfl (R1.sub.trans up) λ_ _ z=>.inl z
 obtain⟨C2,g2,hm⟩:=R2.c.alloc (c:=⟨.ins C [],[]⟩) (o:=.ins Ca dx []) (vs:=[]) hyd ⟨Ca,dx,[],hC,c,(λ_ z=>nomatch z),aA,rfl,rfl⟩ .nil
 obtain⟨C3,full⟩:=C2.enter;have b2:ay X.K ⟨F1.F,F1.μ++[y]⟩ (.ref st1.h.length::as) (.ref y::vs):=.cons (dm.mpr ⟨y,hm,rfl⟩) (b1.mono g2)
 match r,e4 with
 | (.ok .aL,h'),e4 =>
  cases e4;exact⟨_,_,_,.ref st1.h.length::as,_,h',C3,full,by rw[cY];exact b2,by grind,e3,λv F' H' D b'=>⟨cX.mp b',e2 _ H' F' ⟨C2.leave D,(R2.l.mono g2).mono D.base⟩ (g2.trans D.base) (dm.mpr ⟨y,D.base.m _ _ hm,rfl⟩)⟩⟩
 | (.ok (.bl _),_),e4=>cases e4
 | (.ok (.int _),_),e4=>cases e4
 | (.ok (.str _),_),e4=>cases e4
 | (.ok (.ref _),_),e4=>cases e4
 | (.ok (.fn _),_),e4=>cases e4
 | (.ok (.nd _ _),_),e4=>cases e4
 | (.ex _ _,_),e4=>cases e4
end
def GZ{X:Cx}{af:Hp}{ag:Fz}{C:Str}{Ca:Addr}{n:Nat}{g:jW}(hC:ClsAt X.K C (.ref Ca))(c:rY X.K Ca)(h:tE X af ag (UZ C n g (cA [])) σ H Q):Bp Ca (tJ X.K n g) [] E0 Oo σ H Q:=by
 have:=B7 hC c h;obtain⟨F,st,R,h1⟩:=this;exact Tx.cA h1 [] H F R (Gr.refl _) .nil
noncomputable def U0(o:Expr)(env:Env):Sem Bool:=do
 let b <-importBound o env
 pure (b.getD true)
theorem tP{o:Expr}{m:Str}{eP cp:Pos}{args:List Expr}{env:Env}(hb:attributeBase o m env (eval o env)=eval o env)
  (hf:((backTo cp (starEach args env)).all (λx=>!x.1)&&(backToKw cp (keywordEach [] env)).all (λx=>x.1.isSome)&&decide (args.length+([]:List Keyword).length+(if([]:List Keyword).isEmpty then 0 else 1)<30))=true)
  (hl:(eP.endLine==cp.line)=true):eval (.Call (.Attribute o m eP) args [] cp) env=(do
   let ov <-eval o env
   standAt eP.atName
   let (f,first) <-holding [ov] (getMethod ov m (U0 o env))
   callWith cp f first (backTo cp (starEach args env)) (backToKw cp (keywordEach [] env))):=by
 rw[arm_eval_Call,hb];have e1:methodCallForm (args.length+([]:List Keyword).length) (backTo cp (starEach args env)) (backToKw cp (keywordEach [] env))=true:=by
  unfold methodCallForm;rw[aJ]at hf ⊢;exact⟨hf.1,hf.2⟩
 have e2:methodCallPos true o env eP cp=pure cp:=by
  unfold methodCallPos;rw[hl];rfl
 unfold methodCall;simp only[e1,e2];unfold calleeOf;simp only[if_pos];rfl
theorem fW{α β:Type} [BEq α] [LawfulBEq α] {k:α} {v:β}:∀{l:List (α×β)},l.lookup k=some v->(k,v)∈l
 | [],h=>by cases h
 | (a,b)::l,h=>by
  rw[dy]at h;cases z:k==a with
  | true =>
   rw[z]at h;cases h;rw[aV z];exact dw
  | false =>
   rw[z]at h;exact cG _ (fW h)
def K2(h:List aj)(p:PV)(m:Str):Option Str:=match cS h p with
 | some (.ins C ns,_)=>if ns.contains m=true then none else some C
 | _=>none
abbrev U1:=List ((Str×Str)×(Str×Nat))
noncomputable def tQ(mt:U1)(m:Str):List (Str×(Str×Nat)):=(mt.filter λd=>d.1.2==m).map λd=>(d.1.1,d.2)
def DJ(L:List (Str×(Str×Nat)))(m:Str)(p:PV)(h:List aj):Option (Str×Nat):=(K2 h p m).bind λC=>L.lookup C
theorem tU{mt:U1}{m C:Str}{y:Str×Nat}(h:(tQ mt m).lookup C=some y):((C,m),y)∈mt:=by
 obtain⟨d,hd,e⟩:=bX.mp (fW h);obtain⟨h1,h2⟩:=zC.mp hd;cases e;rw[<-aV h2];exact h1
def yb(L:List (Str×(Str×Nat)))(call:Str->jW)(m:Str)(fo:Gx PV)(ts:Gx (List PV)):Gx PV :=
 bnd fo λp=>bnd (hp (DJ L m p)) λq=>bnd ts λas=>ig q.2 (call q.1) (p::as)
def vJ(X:Cx)(mt:U1)(call:Str->jW):Prop:=∀C m y,((C,m),y)∈mt->∃j f fd ps Ca,ClsAt X.K C (.ref Ca)/\EB X.K Ca m f/\FnOk X.prog X.w X.K X.mg X.base (ij X.prog X.w) j f fd ps (tJ X.K y.2 (call y.1))/\c7 j X.A/\cL X.K fd ps []
section
variable {X:Cx} {af:Hp} {ag:Fz} {e o:Expr} {es:List Expr} {ts:Gx (List PV)} {fo:Gx PV} {pos p eP cp:Pos} {m:Str} {mt:U1} {call:Str->jW}
def P5(hM:vJ X mt call)(ho:PE X o (tE X af ag fo))(ha:PA X (e::es) (tA X af ag ts))(hb:attributeBase o m X.env (eval o X.env)=eval o X.env)
  (hf:((backTo cp (starEach (e::es) X.env)).all (λx=>!x.1)&&(backToKw cp (keywordEach [] X.env)).all (λx=>x.1.isSome)&&decide ((e::es).length+([]:List Keyword).length+(if([]:List Keyword).isEmpty then 0 else 1)<30))=true)
  (hl:(eP.endLine==cp.line)=true) (rS:starEach (e::es) X.env=(false,eval e X.env)::starEach es X.env) (qa:(backTo cp (starEach es X.env)).any (·.1)=false) :
  PE X (.Call (.Attribute o m eP) (e::es) [] cp) (tE X af ag (yb (tQ mt m) call m fo ts)):=by
 rintro ah s σ H Q I ⟨F,st,R,h⟩
 refine nT ho I ⟨F,st,R,h.bnd λq v F1 st1 H1 R1 g1 b1 h1=>?_⟩ (tP hb hf hl)
 obtain⟨⟨key,n⟩,e1,z⟩:=At.hp (At.bnd h1);obtain⟨C,e2,e4⟩:=aO e1;unfold K2 at e2;split at e2
 ·rename_i D ns ps hd;split at e2
  ·cases e2
  ·rename_i Mt;cases e2;obtain⟨a,vs,rfl,⟨Ca,dx,fs,k1,k2,k3,k4,k5,k6⟩,k7⟩:=R1.at hd b1;obtain⟨j,f,fd,vj,Cb,m1,m2,m3,m4,m5⟩:=hM _ _ _ (tU e4);have eC:Ca=Cb:=by
    have:=k1.symm.trans m1;cases this;rfl
   subst eC;refine⟨a,Ca,dx,fs,f,rfl,k4,k2,m2,?_,λs1 I1=>?_⟩
   ·cases hl:fs.lookup m with
    | none=>rfl
    | some w =>
     exact absurd (by rw[<-k5];simpa using uB (f:=λy:Str×V=>y.1) (fW hl)) Mt
   ·have z:Tx X af ag (bj X.K) F1 st1 (bnd ts λas=>ig n (call key) (q::as)) σ Q:=z
    refine W.callWith_K (first:=[.ref a]) (h₀:=X.base) I1.ok.mod.kin m2.kp (thn (ha cp ah s1 σ H1 (λvs H2=>∃F2 dG as,Rep X.K af ag F2 dG σ H2/\ay X.K F2 as vs/\Gr F1 F2/\Tx X af ag (bj X.K) F2 dG (ig n (call key) (q::as)) σ Q) I1
     ⟨F1,st1,R1,z.bnd λas vs F2 dG H2 R2 g2 b2 h2=>⟨F2,dG,as,R2,b2,g2,h2⟩⟩) (by
      rintro us s2 ⟨ws,H2,I2,r,F2,dG,as,R2,b2,g2,z⟩
      exact⟨I2.og,Pw m3 m4 m5 _ _ _ _ _ _ _ _ _ (q::as) (.ref a::us) (.ref a::ws) I2 R2 (.cons (b1.mono g2) b2) (.cons rfl r) z⟩)) rS qa
 ·cases e2
def K3(hM:vJ X mt call)(ho:PE X o (tE X af ag fo))(hb:attributeBase o m X.env (eval o X.env)=eval o X.env)(hl:(eP.endLine==cp.line)=true) :
  PE X (.Call (.Attribute o m eP) [] [] cp) (tE X af ag (yb (tQ mt m) call m fo (cA []))):=by
 rintro ah s σ H Q I ⟨F,st,R,h⟩
 refine nT ho I ⟨F,st,R,h.bnd λq v F1 st1 H1 R1 g1 b1 h1=>?_⟩ (tP hb rfl hl)
 obtain⟨⟨key,n⟩,e1,z⟩:=At.hp (At.bnd h1);obtain⟨C,e2,e4⟩:=aO e1;unfold K2 at e2;split at e2
 ·rename_i D ns ps hd;split at e2
  ·cases e2
  ·rename_i Mt;cases e2;obtain⟨a,vs,rfl,⟨Ca,dx,fs,k1,k2,k3,k4,k5,k6⟩,k7⟩:=R1.at hd b1;obtain⟨j,f,fd,vj,Cb,m1,m2,m3,m4,m5⟩:=hM _ _ _ (tU e4);have eC:Ca=Cb:=by
    have:=k1.symm.trans m1;cases this;rfl
   subst eC;refine⟨a,Ca,dx,fs,f,rfl,k4,k2,m2,?_,λs1 I1=>?_⟩
   ·cases hl:fs.lookup m with
    | none=>rfl
    | some w =>
     exact absurd (by rw[<-k5];simpa using uB (f:=λy:Str×V=>y.1) (fW hl)) Mt
   ·have z:Tx X af ag (bj X.K) F1 st1 (ig n (call key) [q]) σ Q:=At.cA (At.bnd z);exact W.callWith_K0 (first:=[.ref a]) I1.og m2.kp (Pw m3 m4 m5 _ _ _ _ _ _ _ _ _ [q] [.ref a] [.ref a] I1 R1 (.cons b1 .nil) (.cons rfl .nil) z)
 ·cases e2
end
def vK(f:Str)(p:PV)(h:List aj):Option (Str×PV):=match cS h p with
 | some (.ins C ns,ps)=>(xP f ns ps).map λq=>(C,q)
 | _=>none
def qR(h:List aj)(p:PV)(C:Str):Bool:=match i9 h p with
 | some (_,⟨.ins D _,_⟩)=>C==D
 | _=>false
def G0(cls flds:List Str)(f:Str)(g:G2)(fo fv:Gx PV):Gx dB:=bnd fo λp=>bnd (hp (vK f p)) λx=>bnd fv λy=>bnd (hp λh=>g h x.2 y) λz=>stp λst=>if qR st.h p x.1=true then ee cls flds f p z st else none
section
variable {X:Cx} {af:Hp} {ag:Fz} {e o:Expr} {fo fv:Gx PV} {pos qo:Pos} {f:Str} {g:G2} {op:Operator}
def P6{cls flds:List Str}(hc:xQ X.K cls flds)(ho:PE X o (tE X af ag fo))(he:PE X e (tE X af ag fv))(hop:oV X (inplaceOp op) g):PS X (.AugAssign (.Attribute o f qo) op e pos) (tS X af ag (G0 cls flds f g fo fv)) :=
 (DI (rd:=rT X.K g) ho he (λah s σ H x y u v Q I r1 r2 t=>hop ah s σ H x y u v Q I r1 r2 t)).imp λD σ H ⟨F,st,R,h⟩=>⟨F,st,R,h.bnd λpo v F1 st1 H1 R1 g1 b1 h1=>by
  obtain⟨r,e1,e2⟩:=At.bnd h1;obtain⟨q,e3,e4⟩:=aP e1;subst e4;have h2:Sa X af ag F1 D st1 (bnd fv λy=>bnd (hp λh=>g h q.2 y) λz=>stp λst=>if qR st.h po q.1=true then ee cls flds f po z st else none):=e2
  unfold vK at e3;split at e3
  ·rename_i C ns ps hd;obtain⟨q',e3',rfl⟩:=aP e3;obtain⟨a,vs,rfl,⟨Ca,dx,fs,k2,k3,k4,k5,k6,k7⟩,k8⟩:=R1.at hd b1;subst k6 k7;obtain⟨hm,w,hl,bw⟩:=qL e3' k8;refine⟨a,Ca,dx,fs,w,rfl,k5,k3,k4 f hm,hl,F1,st1,R1,h2.bnd λpy y F2 dG H2 R2 g2 b2 h3=>?_⟩
   obtain⟨r,e5,e6⟩:=At.bnd h3;obtain⟨pz,e7,e8⟩:=aP e5;subst e8;have h4:Sa X af ag F2 D dG (stp λst=>if qR st.h po C=true then ee cls flds f po pz st else none):=e6
   refine⟨af,ag,F2,dG,σ,q',py,pz,e7,R2,bw.mono g2,b2,λz H3 F3 R3 g3 b3=>?_⟩
   obtain⟨st',e9,z9⟩:=h4.stp;obtain⟨hC,e9⟩:=bT e9;obtain⟨a',Cb,UW,Mh,k1,m1,m2,m3,m4,m5,m6⟩:=eu hc R3 b1 (g2.trans g3) b3 e9;cases k1;have eCC:Ca=Cb:=by
    unfold qR at hC;split at hC
    ·rename_i h;cases aV hC;cases k2.symm.trans (m6 _ _ _ _ h rfl);rfl
    ·cases hC
   subst eCC;exact⟨UW,Mh,m1,Nat.le_add_left_of_le m4,z9 F3 σ _ m5 g3⟩
  ·cases e3⟩
end
noncomputable def qS:MG:=λc as=>match c.k,as with
 | .lst,[]=>(c.ps[c.ps.length-1]?).map λp=>(⟨.lst,c.ps.dropLast⟩,p)
 | _,_=>none
section
variable {X:Cx} {af:Hp} {ag:Fz} {e o:Expr} {fo fv:Gx PV} {eP iG:Pos}
theorem ay.dropLast{K:W.Frag}{F:Fz}{ps:List PV}{vs:List V}(h:ay K F ps vs):ay K F ps.dropLast vs.dropLast:=by
 rw[List.dropLast_eq_take,List.dropLast_eq_take,h.length];exact h.take _
def G6:F7 X.K MW qS:=by
 intro af H ag F st σ n c c' a as ws q Q R hc hl ha hg hb k;unfold qS at hg;split at hg
 ·rename_i hk;obtain⟨p,e1,e2⟩:=aP hg;cases e2;obtain⟨_,vs,h2,h3⟩:=R.c.cell n c a hc ha hl;rw[hk]at h2;obtain⟨v,e3,b3⟩:=h3.get e1;exact⟨a,vs,v,rfl,hb.cx,h2,by rw[<-h3.length];exact e3,k v F _ (R.put hc hl ha aA h3.dropLast) (Gr.refl _) b3⟩
 ·cases hg
def P7(ho:PE X o (tE X af ag fo))(lU:attributeBase o "pop" X.env (eval o X.env)=eval o X.env)(lV:(eP.endLine==iG.line)=true) :
  PE X (.Call (.Attribute o "pop" eP) [] [] iG) (tE X af ag (IF "list" (fu qS) fo (cA []))) :=
 (OB yT PySem.F.slot_list_pop PySem.F.type_list_pop KZ ho lU lV).imp λ_ _ _ h=>Kw (Gz G6) h
end
noncomputable def DK(f:Gx dB):Gx dB:=λst=>match f st with
 | some (.ok x,st')=>some (.ok x,st')
 | _=>none
section
variable {X:Cx} {af:Hp} {ag:Fz} {body:List Stmt} {hd:ExceptHandler} {hs:List ExceptHandler} {pos:Pos} {f:Gx dB}
def U2(hb:PSs X.RJ body (tS X.RJ af ag f)):PS X (.Try body (hd::hs) [] [] pos) (tS X af ag (DK f)):=by
 rintro ah s σ H D I ⟨F,st,R,r,e1,e2⟩
 unfold DK at e1;split at e1
 ·rename_i x st' hf;cases e1;refine wpAny_Try_except (jq (hb ah s σ H D (I.se _) ⟨F,st,R,_,hf,?_⟩) (λfl s1 h1=>?_) λ_ _ z=>False.elim z)
  ·cases x<;>exact e2
  ·have h1:=h1.jv;cases fl with
   | next=>exact pH h1
   | brk=>exact h1
   | cont=>exact h1
   | ret u=>exact h1
 ·cases e1
def qT(m n:Nat)(g:jW)(ds as:List PV):Gx PV:=λst=>if((m==0)&&(st.h.isEmpty || ao as))=true then jE n g (as++ds) st else ig n g (as++ds) st
variable {k n:Nat} {fa:Addr} {fd:FuncData} {ps:List Str} {g:jW} {ds:List PV} {jr:List V} {p6:List Value}
def U3{m:Nat}(G:FnOk X.prog X.w X.K X.mg X.base (ij X.prog X.w) k fa fd ps (tJ X.K n g))(hr:c7 k X.A)(hb:cL X.K fd ps p6)(hd:Vals jr p6)(bd:∀F,ay X.K F ds jr):Aq X fa (qT m n g ds):=by
 rintro af H ag F st σ ah s Q as us vs I R b r ⟨q,e1,e2⟩
 unfold qT at e1;split at e1
 ·exact UY G hr hb hd bd af H ag F st σ ah s Q as us vs I R b r ⟨q,e1,e2⟩
 ·exact UX G hr hb hd bd af H ag F st σ ah s Q as us vs I R b r ⟨q,e1,e2⟩
end
section
variable {X:Cx} {af:Hp} {ag:Fz} {ke ve:Expr} {fk fv:Gx PV} {pos:Pos}
def G7(po pi pv:PV):bY->Option bY:=λst=>(i9 st.h po).bind λc=>match c.2.k with
 | .eQ true ks=>(fU true pi).bind λk=>if ks.length<ic then some ⟨st.ρ,st.h.set c.1 (iH true k pv ks c.2.ps)⟩else none
 | _=>none
def U4(fk fv:Gx PV):Gx PV:=bnd (Kx true) λp=>bnd fk λk=>bnd fv λv=>λst=>(G7 p k v st).map λs=>(.ok p,s)
def K4{ah:List (Addr×Obj)}{s:Shared}{σ:St}{H:Hp}{a b:Addr}{xs:List ((bQ×List bQ)×Addr×Value)}{k:bQ×List bQ}{r:Value}{A:Around}{E:Value->Shared->Prop}{Q:Unit->Shared->Prop}(hu:A.units+1<cLine)(I:Inv X ah σ H s)(e:H a=some (.dT xs))(hk:fI X.K H xs)(eb:Ej X.K H b k)(hl:xs.length<sizeLine)
  (h:∀s',Inv X ah σ (cU H a (.dT (storedH xs k b r))) s'->Q () s'):wpAny (model X.prog X.w) A (dictSet a (.ref b) r) Q E s:=by
 obtain⟨_,hd,dd⟩:=s9 I (.inl e) hk;refine wpAny_dictSet_heap (hsz:=pU hl) (show(ju (dj X.prog X.w)).room A from hu) (key_is I eb) dd λh' RO hs=>h _ ?_
 obtain⟨q,es,ep,hq,h2,h3,h4,_,h5⟩:=RO;exact I.write (x:=a) (e:=a) (by rw[e];exact True.intro) (.inl rfl) (λc q' hc z=>(hs.2 c hc).trans z) ⟨q,hq⟩ ⟨(by have:=qw xs k b r;lia),hd,q,es,ep,hq,h2,h3,h4,h5⟩
def P8(hu:X.A.units+1150<cLine)(hk:PE X ke (tE X af ag fk))(hv:PE X ve (tE X af ag fv)):PE X (.Dict [some ke] [ve] pos) (tE X af ag (U4 fk fv)):=by
 rintro ah s σ H Q I ⟨F,st,R,h⟩
 refine wpAny_Dict_any rfl rfl (by simp) (by show 1<=15;decide) ?_
 have hp:H s.heap.objs.size=none:=I.hok.fresh (aF _);have h0:=Tx.jy (p:=s.heap.objs.size) (o:=.dT []) (vs:=[]) (Q:=λv H1=>∃F1 st1 pp,Rep X.K af ag F1 st1 σ H1/\bj X.K F1 pp v/\Tx X af ag (bj X.K) F1 st1 (bnd fk λk=>bnd fv λv=>λst=>(G7 pp k v st).map λs=>(.ok pp,s)) σ Q)
  (h.bnd λpp v F1 st1 H1 R1 g1 b1 h1=>⟨F1,st1,pp,R1,b1,h1⟩) R hp ⟨[],aA,(λ_ z=>nomatch z),rfl,.nil⟩ .nil
 have I1:=I.laid (a:=s.heap.objs.size) (o:=.dT []) (t':=s.toks) (λ_ _ q=>aK _ q) (aF _)
  ⟨iA _,hZ.mpr (bU (bC (lY I))),_,#[],0,bL s.heap (o:={cls:=.type "dict",data:=.dict #[]}) rfl,⟨rfl,rfl,rfl⟩,rfl,rfl,pO⟩
 obtain⟨F1,st1,pp,R1,b1,h1⟩:=h0;refine pairTrees_cons_walk (jq (hk ah _ σ _ (λx H2=>∃F2 dG pk,Rep X.K af ag F2 dG σ H2/\Gr F1 F2/\bj X.K F2 pk x/\Tx X af ag (bj X.K) F2 dG (bnd fv λv=>λst=>(G7 pp pk v st).map λs=>(.ok pp,s)) σ Q) I1 ⟨F1,st1,R1,h1.bnd λpk x F2 dG H2 R2 g2 b2 h2=>⟨F2,dG,pk,R2,g2,b2,h2⟩⟩) ?_ λ_ _ e=>e)
 rintro kv s2 ⟨x,H2,I2,rx,F2,dG,pk,R2,g2,b2,h2⟩
 refine jq (hv ah _ σ _ (λy H3=>∃F3 wJ pv,Rep X.K af ag F3 wJ σ H3/\Gr F2 F3/\bj X.K F3 pv y/\Tx X af ag (bj X.K) F3 wJ (λst=>(G7 pp pk pv st).map λs=>(.ok pp,s)) σ Q) I2 ⟨F2,dG,R2,h2.bnd λpv y F3 wJ H3 R3 g3 b3 h3=>⟨F3,wJ,pv,R3,g3,b3,h3⟩⟩) ?_ λ_ _ e=>e
 rintro vv s3 ⟨y,H3,I3,ry,F3,wJ,pv,R3,g3,b3,h3⟩
 refine pairTrees_nil_walk ?_;have b1:=b1.mono (g2.trans g3);have b2:=b2.mono g3;obtain⟨r,e7,z⟩:=h3;obtain⟨Eo,e8,rfl⟩:=aP e7;clear e7;obtain⟨⟨n,c⟩,e1,e6⟩:=aO (show((i9 wJ.h pp).bind λc=>match c.2.k with
  | .eQ true ks=>(fU true pk).bind λk=>if ks.length<ic then some (⟨wJ.ρ,wJ.h.set c.1 (iH true k pv ks c.2.ps)⟩:bY)else none
  | _=>none)=some Eo from e8)
 clear e8;obtain⟨rfl,hc,hl⟩:=gw e1;obtain⟨a,ha,e9⟩:=dm.mp b1;cases e9;obtain⟨_,vs,g4,g5⟩:=R3.c.cell n c _ hc ha hl;split at e6
 ·rename_i ks hk;have hk:=hk;obtain⟨kk,e2,e5⟩:=aO e6;obtain⟨hz,rfl⟩:=aE e5;rw[hk]at g4;obtain⟨xs,q1,q2,q3,q4⟩:=g4;obtain⟨cc,rfl,NQ⟩:=jB e2 b2;cases rx;unfold storeAll;rw[mY];refine ai (ai (K4 (by lia) I3 q1 (λz hz=>ek R3.sub (q2 z hz)) (ek R3.sub NQ) (by
    have:ks.length=xs.length:=by grind
    exact cj (by grind) (dY (aF _))) λs4 I4=>ar ?_))
  dsimp only
  rw[pP];obtain⟨mQ,vj,wM,p1,p2,p3,p4,p5⟩:=FZ b3 ry NQ q2 g5 q4;rw[q3]at p1;refine ar ⟨.ref s.heap.objs.size,_,I4,rfl,z _ _ _ ?_ (Gr.refl _) (dm.mpr ⟨_,ha,rfl⟩)⟩;simp only[p1];exact R3.put hc hl ha ⟨_,aA,p3,p2,p5⟩ p4
 ·cases e6
end
structure Gm where
 sc:List (Str×NameKind)
 N:List Str
 own:Bool
 fns:List (Str×Nat)
 call:Str->jW
 cons:List (Str×PV)
 dJ:List Str
 tabs:List (Str×List (Str×Str))
 eO:List (Str×List (Str×PV))
 cls:List (Str×Nat)
 make:Str->jW
 clss:List Str
 flds:List Str
 /-- what P9 in a cell: 1 a list,2 a list of cells,10 a dict Mb keys Xk tuples -/
 Sk:List (Str×Nat)
 DL:Option ((PV->Gx PV)->Nat->jW)
 DM:Option (Nat×(PV->Gx PV))
 /-- W6: class,name -> key,params -/
 G8:U1
 /-- what P9 Zl IT given args -/
 js:List (Str×List PV)
 /-- classes without __init__ -/
 wV:List Str
noncomputable def slot(Γ:Gm)(x:Str):Option Nat:=Γ.N.findIdx? (· == x)
noncomputable def RK(Γ:Gm)(x:Str):Bool:=match Γ.sc.lookup x with | some .local=>true | some .cell=>true | some .free=>true | _=>false
noncomputable def RV(Γ:Gm)(x:Str):Bool:=match Γ.sc.lookup x with | some .local=>true | some .cell=>Γ.own | _=>false
noncomputable def vL(Γ:Gm)(x:Str):Bool:=match Γ.sc.lookup x with | some .globalImplicit=>true | _=>false
noncomputable def iJ(x:Str):Bool:=!(x==("__debug__":Str))&&!(x==("__classdict__":Str))&&!(x==("__name__":Str))
noncomputable def md(Γ:Gm)(x:Str):Nat:=(Γ.Sk.lookup x).getD 0
noncomputable def DN(m:Nat):Nat:=if m<10 then m-1 else m-20
noncomputable def cpm(m:Nat):Bool:=m != 0&&Nat.blt m 20
def MX(X:Cx)(fns:List (Str×Nat))(call:Str->jW)(js:List (Str×List PV)):Prop:=∀x ds n,js.lookup x=some ds->fns.lookup x=some n->∃j f fd ps jr p6,FnOk X.prog X.w X.K X.mg X.base (ij X.prog X.w) j f fd ps (tJ X.K n (call x))/\c7 j X.A/\X.mg x=some (.ref f)/\W.keepIn X.K (.ref f)=true/\Vals jr p6/\(∀F,ay X.K F ds jr)/\cL X.K fd ps p6
def U5(X:Cx)(k:Nat)(fns:List (Str×Nat))(call:Str->jW):Prop:=∀x n,fns.lookup x=some n->∃j f fd ps,j<=k/\FnOk X.prog X.w X.K X.mg X.base (ij X.prog X.w) j f fd ps (tJ X.K n (call x))/\X.mg x=some (.ref f)/\W.keepIn X.K (.ref f)=true/\cL X.K fd ps []
structure MY (Γ:Gm) (X:Cx) (rs:(PV->Gx PV)->Nat->jW):Prop where
 ex:∃(st:Stmt) (fs:Addr) (fds:FuncData) (pr Ns:List Str) (k:Nat) (rb:(PV->Gx PV)->Nat->Gx dB),rs=(λω n=>gT (rb ω n) Ns.length)/\Mc X.K "spread" "spread" st fs fds/\X.mg "spread"=some (.ref fs)/\cL X.K fds pr []/\cM Ns pr (aw st)/\pr.length=2/\c7 (k+2) X.A /\
  (∀(cW:Value) (A:Around) (aB:List Env) (s:Shared) (H:Hp) (E:XK) (af:Hp) (ag:Fz) (n:Nat) (ω:PV->Gx PV),c7 (k+1) (A.deeper (envOfC "spread" (aw st) s.heap.objs.size fs cW))->GF (fq (ij X.prog X.w) X.prog X.w X.K X.mg X.base Ns "spread" (aw st) fs cW A aB s H E) af ag n ω ->
   PSs (fq (ij X.prog X.w) X.prog X.w X.K X.mg X.base Ns "spread" (aw st) fs cW A aB s H E) (b8 st) (tS (fq (ij X.prog X.w) X.prog X.w X.K X.mg X.base Ns "spread" (aw st) fs cW A aB s H E) af ag (rb ω n))) /\
  U5 X k Γ.fns Γ.call
 lam:UI X
structure GOk (Γ:Gm) (X:Cx) (af:Hp) (ag:Fz):Prop where
 names:X.env.scope.names=Γ.sc
 N:X.N=Γ.N
 nd:X.N.Nodup
 kind:X.env.scope.kind=.function
 calm:X.calm=true
 hd:X.A.handled=none
 un:X.A.units+1150<cLine
 own:Γ.own=true->∀x,X.fn x=true
 fns:ML X Γ.fns Γ.call
 cons:∀x p,Γ.cons.lookup x=some p->∃u v,X.mg x=some u/\RelV v u/\∀F,bj X.K F p v
 dJ:∀x,Γ.dJ.contains x=true->X.mg x=none
 tabs:∀T rows,Γ.tabs.lookup T=some rows->BU X.K X.mg X.w.params T rows
 eO:∀T rows,Γ.eO.lookup T=some rows->vD X.K X.mg X.w.params T rows
 ns:∀x a,W.nsIn X.K mainGlobals x=some (some (.ref a))->X.mg x=some (.ref a)
 MZ:xQ X.K Γ.clss Γ.flds
 cls:∀C n,Γ.cls.lookup C=some n->∃k Ca f fd ps,ClsAt X.K C (.ref Ca)/\rY X.K Ca/\Mk X.K Ca f/\FnOk X.prog X.w X.K X.mg X.base (ij X.prog X.w) k f fd ps (tJ X.K n (Γ.make C))/\c7 (k+1) X.A/\X.mg C=some (.ref Ca)/\cL X.K fd ps []
 DL:∀rs,Γ.DL=some rs->MY Γ X rs
 DM:∀n ω,Γ.DM=some (n,ω)->GF X af ag n ω
 G8:vJ X Γ.G8 Γ.call
 js:MX X Γ.fns Γ.call Γ.js
 wV:∀C,Γ.wV.contains C=true->∃Ca,ClsAt X.K C (.ref Ca)/\rY X.K Ca/\Xm X.K Ca/\X.mg C=some (.ref Ca)
def GOk.RJ{Γ:Gm}{X:Cx}{af:Hp}{ag:Fz}(G:GOk Γ X af ag)(h:(Γ.DL.isNone&&Γ.DM.isNone)=true):GOk Γ X.RJ af ag :=
 ⟨G.names,G.N,G.nd,G.kind,G.calm,G.hd,G.un,G.own,G.fns,G.cons,G.dJ,G.tabs,G.eO,G.ns,G.MZ,G.cls,(λrs e=>by rw[e]at h;cases h),(λn ω e=>by rw[e,Bool.and_comm]at h;cases h),G.G8,G.js,G.wV⟩
noncomputable def bt:Expr->Bool
 | .Starred _ _=>false
 | .Set _ _ _=>false
 | _=>true
noncomputable def o7:Expr->Bool
 | .Slice _ _ _ _=>false
 | _=>true
noncomputable def B8:Expr->Bool
 | .Tuple _ _ _=>false
 | .ListComp _ _ _ _=>false
 | .SetComp _ _ _ _=>false
 | .DictComp _ _ _ _ _=>false
 | _=>true
noncomputable def jH:Expr->Bool
 | .ListComp _ _ _ _=>false
 | .SetComp _ _ _ _=>false
 | .DictComp _ _ _ _ _=>false
 | _=>true
noncomputable def vM:Expr->Bool
 | .Name _ _=>true
 | .Subscript _ _ _=>true
 | .Attribute _ _ _=>true
 | .Call _ (_::_) _ _=>true
 | _=>false
def jX(h:vM e=true):attributeBase e f env (eval e env)=eval e env:=by
 cases e with
 | Call f as ks=>cases as with
  | nil=>cases h
  | cons=>cases f<;>rfl
 | _=>first | rfl | cases h
def vN(h:B8 e=true):jH e=true:=by
 cases e<;>first | rfl | cases h
noncomputable def Ay:Expr->Bool
 | .UnaryOp .Not _ _=>false
 | .BoolOp _ _ _=>false
 | .IfExp _ _ _ _=>false
 | .Compare _ _ _ _=>false
 | _=>true
def bM(h:bt e=true)(es:List Expr)(env:Env):starEach (e::es) env=(false,eval e env)::starEach es env:=by
 cases e<;>first | rfl | cases h
def gY(h:bt e=true)(op:CmpOp):behindInMarks op e=false:=by
 cases e<;>first | rfl | cases h
def gN(h:bt e=true)(env:Env)(x:Value):foldedSetIterable e env x=pure x:=by
 cases e<;>first | rfl | cases h
def qU(h:o7 e=true):lR e:=by
 intro o i;cases e<;>first | rfl | cases h
def G9(h:Ay e=true)(env:Env)(iU:Sem Value):isTrue e env iU=(do let v <-iU;standAt e.pos;holding [v] (truthy v)):=by
 cases e with
 | UnaryOp op a p=>cases op<;>first | rfl | cases h
 | BoolOp _ _ _=>cases h
 | IfExp _ _ _ _=>cases h
 | Compare _ _ _ _=>cases h
 | _=>rfl
def jI(h:jH e=true)(t:Option Expr)(l:Nat)(env:Env):swapsWith e t l env=pure false:=by
 cases e<;>first | rfl | cases h
def gZ(h:es.all bt=true)(env:Env)(pos:Pos):(backTo pos (starEach es env)).any (·.1)=false:=by
 induction es with
 | nil=>rfl
 | cons e es ih =>
  rw[jk,aJ]at h;rw[bM h.1];exact ih h.2
def Az(h:es.all bt=true)(env:Env)(pos:Pos):(backTo pos (starEach es env)).all (λx=>!x.1)=true:=by
 induction es with
 | nil=>rfl
 | cons e es ih =>
  rw[jk,aJ]at h;rw[bM h.1];exact ih h.2
def B9(h:es.all bt=true)(hl:es.length<30):((backTo cp (starEach es env)).all (λx=>!x.1)&&(backToKw cp (keywordEach [] env)).all (λx=>x.1.isSome)
   && decide (es.length+([]:List Keyword).length+(if([]:List Keyword).isEmpty then 0 else 1)<30))=true:=by
 rw[Az h];simp only[Bool.true_and,aJ,uE];exact⟨rfl,hl⟩
def gO(h:iJ x=true):(x==("__debug__":Str))=false/\(x==("__classdict__":Str))=false/\x≠"__name__":=by
 unfold iJ at h;simp only[aJ,zl]at h;exact⟨h.1.1,h.1.2,by simpa using h.2⟩
noncomputable def vO:Nat->Gm->Expr->Option (Tg×List Nat)
 | 0,_,_=>none
 | n+1,Γ,e=>match e with
  | .Name x _=>if RV Γ x=true then(slot Γ x).map λi=>(dh i,[i])else none
  | .Tuple es _ _=>(es.foldr (λe r=>(vO n Γ e).bind λg=>r.map λgs=>(qD g.1 gs.1,g.2++gs.2)) (some (Dj,[]))).map λgs=>(Ae es.length gs.1,gs.2)
  | _=>none
def Ha(h:slot Γ x=some i):Γ.N[i]?=some x:=by
 unfold slot at h;obtain⟨hi,hp,_⟩:=List.findIdx?_eq_some_iff_getElem.mp h;rw[eE hi];exact eU some (aV hp)
section
variable {Γ:Gm} {X:Cx} {x:Str} {pos:Pos} {af:Hp} {ag:Fz}
def GOk.Zm(G:GOk Γ X af ag)(h:RK Γ x=true):RH X.env.scope x:=by
 unfold RK at h;unfold RH;rw[G.names];split at h<;>simp_all
def GOk.Qa(G:GOk Γ X af ag)(h:RV Γ x=true):Mi X.env.scope x/\(X.fn x=true\/X.env.scope.names.lookup x=some .local):=by
 unfold RV at h;unfold Mi;rw[G.names];split at h
 ·grind
 ·rename_i z;exact⟨.inr z,.inl (G.own h x)⟩
 ·cases h
def GOk.j7(G:GOk Γ X af ag)(h:vL Γ x=true):Gl X x:=by
 unfold vL at h;show X.env.scope.names.lookup x=_;rw[G.names];split at h
 ·assumption
 ·cases h
def GOk.tV(G:GOk Γ X af ag)(h:slot Γ x=some i):X.N[i]?=some x:=by
 rw[G.N];exact Ha h
theorem mz(G:GOk Γ X af ag):∀(n:Nat) (e:Expr) (g:Tg×List Nat),vO n Γ e=some g->PG X e (tG X.K af ag g.1)/\KG g.2 g.1/\(∀env:Env,(assignEach [e] env).map (·.2)=[assign e env])/\∀(es:List Expr) (env:Env),assignEach (e::es) env=(false,assign e env)::assignEach es env
 | 0,_,_,h=>by cases h
 | n+1,e,g,h=>by
  cases e with
  | Name x p =>
   have h:=h;obtain⟨hs,h⟩:=bT h;obtain⟨i,z,rfl⟩:=aP h;obtain⟨h1,h2⟩:=G.Qa hs;exact⟨OR i (Jo G.nd (G.tV z) h1 h2),Kl i,λ_=>rfl,λ_ _=>rfl⟩
  | Tuple es k p =>
   have all:∀es gs,es.foldr (λe r=>(vO n Γ e).bind λg=>r.map λgs=>(qD g.1 gs.1,g.2++gs.2)) (some (Dj,[]))=some gs ->
     PGs X es (TQ X.K af ag gs.1)/\Ui gs.2 gs.1/\∀env:Env,(assignEach es env).length=es.length/\(assignEach es env).findIdx? (·.1)=none:=by
    intro es;induction es with
    | nil =>
     intro gs h;cases h;exact⟨OS,Km,λenv=>⟨rfl,rfl⟩⟩
    | cons e es ih =>
     intro gs h;rw[List.foldr_cons]at h;obtain⟨g1,e1,h⟩:=aO h;obtain⟨g2,z,rfl⟩:=aP h;obtain⟨a1,a2,a3,a4⟩:=mz G n e g1 e1;obtain⟨b1,b2,b3⟩:=ih g2 z;refine⟨JW a1 b1 (by grind),Gb a2 b2,λenv=>?_⟩
     rw[a4];obtain⟨c1,c2⟩:=b3 env;exact⟨by rw[cq,cq,c1],by grind⟩
   have h:=h;obtain⟨gs,z,rfl⟩:=aP h;obtain⟨b1,b2,b3⟩:=all es gs z;exact⟨TR G.calm b1 (b3 _).1 (b3 _).2,Pe b2,λ_=>rfl,λ_ _=>rfl⟩
  | _=>cases h
def DO(G:GOk Γ X af ag)(hn:iJ x=true)(hv:RK Γ x=true)(hs:slot Γ x=some i):PE X (.Name x pos) (Jg i) :=
 pe_var (G.tV hs) (G.Zm hv) (gO hn).1 (gO hn).2.1
end
def vP(x:Str):Option GC :=
 if x==("len":Str)then some jw
 else if x==("tuple":Str)then some FU
 else if x==("int":Str)then some FV
 else if x==("sum":Str)then some J9
 else if x==("str":Str)then some J8
 else none
def Hb:bootBuiltins "sum"=some (.builtin "sum"):=by kernel_rfl
set_option maxHeartbeats 4000000 in
theorem Qb(h:vP x=some g)(hh:X.A.handled=none)(hg:Gl X x)(hm:X.mg x=none)(ha:PA X (a::es) (tA X af ag ts))
  (he:starEach (a::es) X.env=(false,eval a X.env)::starEach es X.env) (qa:(backTo pos (starEach es X.env)).any (·.1)=false):PE X (.Call (.Name x p) (a::es) [] pos) (tE X af ag (J7 g ts)):=by
 unfold vP at h;split at h
 ·rename_i e;cases h;have e:=aV e;subst e;exact(qr Dk hg hm PySem.boot_len ha (by decide) (by decide) he qa).imp λ_ _ _ h=>mh h
 ·split at h
  ·rename_i e;cases h;have e:=aV e;subst e;exact(nz Dl hg hm (mi .tuple) ha (by decide) (by decide) he qa).imp λ_ _ _ h=>mh h
  ·split at h
   ·rename_i e;cases h;have e:=aV e;subst e;exact(nz Dn hg hm (mi .int) ha (by decide) (by decide) he qa).imp λ_ _ _ h=>mh h
   ·split at h
    ·rename_i e;cases h;have e:=aV e;subst e;exact(qr (Dq hh) hg hm Hb ha (by decide) (by decide) he qa).imp λ_ _ _ h=>mh h
    ·split at h
     ·rename_i e;cases h;have e:=aV e;subst e;exact(nz Dp hg hm (mi .str) ha (by decide) (by decide) he qa).imp λ_ _ _ h=>mh h
     ·cases h
noncomputable def Hc:ScopeKind->Bool
 | .function=>true
 | _=>false
noncomputable def tW(scope:Scope):List Str:=(scope.names.filter λy=>match y.2 with | .local=>true | .free=>true | _=>false).map (·.1)
def gP(Γ:Gm)(scope:Scope):List (Option Nat):=(tW scope).map λx=>match scope.names.lookup x with | some .free=>slot Γ x | _=>none
noncomputable def AA(Γ:Gm)(scope:Scope):List (Str×NameKind):=scope.names.map fun(n,k)=>if(k==NameKind.free&&Γ.sc.lookup n==some .cell)then(n,NameKind.cell)else(n,k)
def tY(Γ:Gm)(scope:Scope):Gm:={Γ with sc:=AA Γ scope,N:=tW scope,own:=false,DL:=none,DM:=none}
def qV(Γ:Gm)(scope:Scope)(L:List Nat):Bool :=
 Hc scope.kind&&scope.names.all (λy=>match y.2 with
  | .cell=>false
  | .local=>(match scope.names.lookup y.1 with | some .local=>true | _=>false)
  | .free=>(match Γ.sc.lookup y.1 with | some .cell=>true | some .free=>true | _=>false)
  | _=>true)&&decide (tW scope).Nodup&&L.all λi=>match(gP Γ scope)[i]? with | some none=>true | _=>false
section
variable {Γ:Gm} {X:Cx} {scope:Scope} {L:List Nat} {af:Hp} {ag:Fz}
def mB(h:qV Γ scope L=true):scope.kind=.function/\(∀y∈scope.names,(match y.2 with
  | .cell=>false
  | .local=>(match scope.names.lookup y.1 with | some .local=>true | _=>false)
  | .free=>(match Γ.sc.lookup y.1 with | some .cell=>true | some .free=>true | _=>false)
  | _=>true)=true)/\(tW scope).Nodup/\∀i∈L,(gP Γ scope)[i]?=some none:=by
 unfold qV at h;simp only[aJ,fD,uE]at h;obtain⟨⟨⟨h1,h2⟩,h3⟩,h4⟩:=h;refine⟨?_,h2,h3,λi hi=>?_⟩
 ·unfold Hc at h1;split at h1
  ·assumption
  ·cases h1
 ·grind
def AB(G:GOk Γ X af ag)(h:qV Γ scope L=true):il X (tW scope) (gP Γ scope) scope:=by
 obtain⟨h1,h2,h3,h4⟩:=mB h;refine⟨h1,λy hy z=>?_,λy hy z=>?_,λy hy z=>?_,by unfold gP;rw[aU],λi j x hl hx=>?_⟩
 ·grind
 ·grind
 ·have:=h2 y hy;rw[z]at this;simp only at this;show X.env.scope.names.lookup y.1=_\/X.env.scope.names.lookup y.1=_;rw[G.names];split at this
  ·grind
  ·grind
  ·cases this
 ·unfold gP at hl;rw[cQ,hx]at hl;have hl:(match scope.names.lookup x with | some .free=>slot Γ x | _=>none)=some j:=by grind
  split at hl
  ·exact⟨G.tV hl,by assumption⟩
  ·cases hl
def Hd(G:GOk Γ X af ag)(h:qV Γ scope L=true)(C:Addr)(s:Shared)(H:Hp)(fp:List Addr)(Zn:Hp)(Zo:Fz):GOk (tY Γ scope) (cu X (tW scope) scope C s H fp) Zn Zo where
 names:=by
  show(relabel scope X.env).names=AA Γ scope;have e:∀n,X.env.kindOf n=Γ.sc.lookup n:=λn=>by show X.env.scope.names.lookup n=_;rw[G.names]
  unfold AA relabel;simp only[G.kind,e]
  congr 1
  funext y
  obtain⟨n,k⟩:=y;simp
 N:=rfl
 nd:=(mB h).2.2.1
 kind:=by
  exact(mB h).1
 calm:=G.calm
 hd:=G.hd
 un:=G.un
 own:=λz=>by cases z
 fns:=G.fns
 cons:=G.cons
 dJ:=G.dJ
 tabs:=G.tabs
 eO:=G.eO
 ns:=G.ns
 MZ:=G.MZ
 cls:=G.cls
 DL:=λ_ z=>by cases z
 DM:=λ_ _ z=>by cases z
 G8:=G.G8
 js:=G.js
 wV:=G.wV
end
noncomputable def cm{α:Type}:Gx α:=λ_=>none
section
variable {X:Cx} {af:Hp} {ag:Fz} {e:Expr} {es:List Expr}
def tZ{C:Prop}(h:tX X af ag rl cm σ H Q):C:=by
 obtain⟨F,st,R,r,z,_⟩:=h;cases z
def aR:PE X e (tE X af ag cm):=λ_ _ _ _ _ _ h=>tZ h
def t8:PT X e (tT X af ag cm):=λ_ _ _ _ _ _ h=>tZ h
def He:PW X e (tT X af ag cm):=λ_ _ _ _ _ _ _ h=>tZ h
def M0:PA X es (tA X af ag cm):=λ_ _ _ _ _ _ _ h=>tZ h
def M3{tg:Expr}:PI X tg e (Er X af ag cm):=λ_ _ _ _ _ _ h=>tZ h
end
def mC(m n:Nat)(g:jW)(as:List PV):Gx PV:=λst=>if((m==0)&&(st.h.isEmpty || ao as))=true then jE n g as st else ig n g as st
def Zr(G:FnOk X.prog X.w X.K X.mg X.base (ij X.prog X.w) k f fd ps (tJ X.K n g))(hr:c7 k X.A)(hb:cL X.K fd ps []):Aq X f (mC m n g):=by
 rintro af H ag F st σ ah s Q as us vs I R b r ⟨q,e1,e2⟩
 unfold mC at e1;split at e1
 ·exact Ux G hr hb af H ag F st σ ah s Q as us vs I R b r ⟨q,e1,e2⟩
 ·exact Pw G hr hb af H ag F st σ ah s Q as us vs I R b r ⟨q,e1,e2⟩
def U6(Γ:Gm):Expr->Nat
 | .Name x _=>DN (md Γ x)
 | .Attribute _ f _=>DN (md Γ f)
 | _=>0
def Zs(Γ:Gm)(g:Str)(o:Expr):Nat:=if g==("get":Str)then 0 else U6 Γ o
noncomputable def vQ(e:Expr):Option {x:Option Expr×Option Expr // ∃p,e=.Slice x.1 x.2 none p}:=match e with
 | .Slice lo hi none p=>some ⟨(lo,hi),p,rfl⟩
 | _=>none
noncomputable def AD(e:Expr):Option {x:Option Expr×Expr // ∃p,e=.Slice x.1 none (some x.2) p}:=match e with
 | .Slice lo none (some m) p=>some ⟨(lo,m),p,rfl⟩
 | _=>none
def Zt:Const->Gx PV
 | .int i=>cA (.int i)
 | .bool i=>cA (.bl i)
 | .none=>cA .aL
 | .str i=>cA (.str i)
 | _=>cm
def Qc(Γ:Gm)(x:Str):Gx PV:=if iJ x=true then(if RK Γ x=true then(match slot Γ x with | some i=>rd i | none=>cm)else if vL Γ x=true then(match Γ.cons.lookup x with | some p=>cA p | none=>cm)else cm)else cm
noncomputable def AE(a:Expr):Option {x:Str×Expr×List Expr // ∃p q,a=.Call (.Name x.1 p) (x.2.1::x.2.2) [] q}:=match a with
 | .Call (.Name z p) (b::bs) [] q=>some ⟨(z,b,bs),p,q,rfl⟩
 | _=>none
def ku(Γ:Gm)(x:Str):Bool:=vL Γ x&&Γ.dJ.contains x
noncomputable def U7:Operator->Bool
 | .Add=>true
 | _=>false
mutual
noncomputable def aW:Nat->Gm->Nat->Expr->Gx PV
 | 0,_,_,_=>cm
 | n+1,Γ,m,e=>match e with
  | .Constant c _ _=>Zt c
  | .Name x _=>Qc Γ x
  | .BinOp a op b _=>if(m != 0&&U7 op)=true then PJ m (aW n Γ 0 a) (aW n Γ 0 b)else(match KW op with | some g=>op2 g (aW n Γ 0 a) (aW n Γ 0 b) | none=>cm)
  | .UnaryOp .Not a _=>OH (aW n Γ 0 a)
  | .UnaryOp .USub a _=>O5 (aW n Γ 0 a)
  | .BoolOp op vs _=>Hf n Γ op vs
  | .Compare a ops bs _=>Qd n Γ a ops bs
  | .IfExp c a b _=>oq (sy n Γ c) (aW n Γ m a) (aW n Γ m b)
  | .Tuple es _ _=>OJ .au (j8 n Γ m es)
  | .List es _=>(match m with | 0=>OJ .lst (j8 n Γ 0 es) | _=>Di (j8 n Γ (DN m) es))
  | .Dict [] [] _=>Kx (m==10)
  | .Dict [some k] [v] _=>U4 (aW n Γ 0 k) (aW n Γ 0 v)
  | .Subscript a b _=>Qe n Γ a b
  | .ListComp elt gens scope _=>Qf n Γ m elt gens scope
  | .Attribute o f _=>if vM o=true then Kz f (aW n Γ 0 o)else cm
  | .Call f (a::es) [] cp=>if(a::es).all bt=true then Qg n Γ m f a es cp else cm
  | .Call (.Attribute o f ap) [] [] cp=>if(vM o&&(ap.endLine==cp.line))=true then(if f==("pop":Str)then IF "list" (fu qS) (aW n Γ 0 o) (cA [])else match GA f with | some w=>IF w.1 w.2 (aW n Γ 0 o) (cA []) | none=>yb (tQ Γ.G8 f) Γ.call f (aW n Γ 0 o) (cA []))else cm
  | .Call (.Name C _) [] [] _=>if(iJ C&&vL Γ C)=true then(match Γ.cls.lookup C with | some k=>UZ C k (Γ.make C) (cA []) | none=>cm)else cm
  | _=>cm
termination_by structural n=>n
noncomputable def Qg:Nat->Gm->Nat->Expr->Expr->List Expr->Pos->Gx PV
 | 0,_,_,_,_,_,_=>cm
 | n+1,Γ,m,f,a,es,cp=>match f with
  | .Name x _=>if iJ x=true then(if vL Γ x=true then Qh n Γ m x a es else cm)else cm
  | .Subscript v k p=>BV Γ.fns Γ.call (aW n Γ 0 (.Subscript v k p)) (j8 n Γ 0 (a::es))
  | .Attribute o g ap=>if(vM o&&(ap.endLine==cp.line)&&decide ((a::es).length<30))=true then(match xO g with | some w=>IF w.1 w.2 (aW n Γ 0 o) (j8 n Γ (Zs Γ g o) (a::es)) | none=>yb (tQ Γ.G8 g) Γ.call g (aW n Γ 0 o) (j8 n Γ 0 (a::es)))else cm
  | _=>cm
termination_by structural n=>n
noncomputable def Qh:Nat->Gm->Nat->Str->Expr->List Expr->Gx PV
 | 0,_,_,_,_,_=>cm
 | n+1,Γ,m,x,a,es=>if x==("spread":Str)then Hg n Γ a es else match Γ.fns.lookup x with
  | some k=>if(a::es).length==k then bnd (j8 n Γ 0 (a::es)) (mC m k (Γ.call x))else(match Γ.js.lookup x with | some ds=>bnd (j8 n Γ 0 (a::es)) (qT m k (Γ.call x) ds) | none=>cm)
  | none=>match Γ.cls.lookup x with
   | some k=>(match m with | 0=>cm | _=>UZ x k (Γ.make x) (j8 n Γ 0 (a::es)))
   | none=>if Γ.dJ.contains x=true then(if x==("isinstance":Str)then Hh n Γ a es else if x==("sorted":Str)then Hj n Γ a es else if x==("dict":Str)then Qi n Γ a es else if x==("list":Str)then Hk n Γ m a es else match vP x with | some g=>J7 g (j8 n Γ 0 (a::es)) | none=>cm)else cm
termination_by structural n=>n
noncomputable def Hg:Nat->Gm->Expr->List Expr->Gx PV
 | 0,_,_,_=>cm
 | n+1,Γ,a,es=>cm
termination_by structural n=>n
noncomputable def Hk:Nat->Gm->Nat->Expr->List Expr->Gx PV
 | 0,_,_,_,_=>cm
 | n+1,Γ,m,a,es=>match es with
  | []=>(match AE a with
   | some ⟨zs,_⟩=>(match zs.2.2 with
    | [b]=>if(zs.1==("zip":Str)&&ku Γ zs.1&&bt zs.2.1&&bt b)=true then PR m (aW n Γ 0 zs.2.1) (aW n Γ 0 b)else cm
    | _=>cm)
   | none=>cm)
  | _=>cm
termination_by structural n=>n
noncomputable def Qi:Nat->Gm->Expr->List Expr->Gx PV
 | 0,_,_,_=>cm
 | n+1,Γ,a,es=>match es with
  | []=>KI (aW n Γ 0 a)
  | _=>cm
termination_by structural n=>n
noncomputable def Hj:Nat->Gm->Expr->List Expr->Gx PV
 | 0,_,_,_=>cm
 | n+1,Γ,a,es=>cm
termination_by structural n=>n
noncomputable def Hh:Nat->Gm->Expr->List Expr->Gx PV
 | 0,_,_,_=>cm
 | n+1,Γ,a,es=>match es with
  | [.Name t _]=>if ku Γ t=true then(match BC t with | some g=>WN g (aW n Γ 0 a) | none=>cm)else cm
  | _=>cm
termination_by structural n=>n
noncomputable def Qd:Nat->Gm->Expr->List CmpOp->List Expr->Gx PV
 | 0,_,_,_,_=>cm
 | n+1,Γ,a,ops,bs=>match ops,bs with
  | [op],[b]=>if bt b=true then(match Ah op with | some g=>op2 g (aW n Γ 0 a) (aW n Γ 0 b) | none=>cm)else cm
  | [op,wK],[b,c]=>if bt c=true then(match Ah op,Ah wK with | some g,some g'=>chain g g' (aW n Γ 0 a) (aW n Γ 0 b) (aW n Γ 0 c) | _,_=>cm)else cm
  | _,_=>cm
termination_by structural n=>n
noncomputable def Qe:Nat->Gm->Expr->Expr->Gx PV
 | 0,_,_,_=>cm
 | n+1,Γ,a,b=>match vQ b with
  | some ⟨lh,_⟩=>cutE (aW n Γ 0 a) (DP n Γ lh.1) (DP n Γ lh.2)
  | none=>match AD b with
  | some ⟨lm,_⟩=>O6 (aW n Γ 0 a) (DP n Γ lm.1) (DP n Γ (some lm.2))
  | none=>if o7 b=true then(match a with
   | .Name T p=>if(iJ T&&vL Γ T)=true then(match Γ.eO.lookup T with
    | some rows=>DC (λk=>rows.lookup k) (aW n Γ 0 b)
    | none=>match Γ.tabs.lookup T with
     | some rows=>DC (λk=>(rows.lookup k).map .fn) (aW n Γ 0 b)
     | none=>op2 aZ (aW n Γ 0 (.Name T p)) (aW n Γ 0 b))else op2 aZ (aW n Γ 0 (.Name T p)) (aW n Γ 0 b)
   | a=>op2 aZ (aW n Γ 0 a) (aW n Γ 0 b))else cm
termination_by structural n=>n
noncomputable def sy:Nat->Gm->Expr->Gx Bool
 | 0,_,_=>cm
 | n+1,Γ,e=>match e with
  | .UnaryOp .Not a _=>JT (sy n Γ a)
  | .BoolOp op vs _=>Hl n Γ op vs
  | .Compare a [op] [b] _=>if bt b=true then(match Ah op with | some g=>toB (op2 g (aW n Γ 0 a) (aW n Γ 0 b)) | none=>cm)else cm
  | .Compare a [op,wK] [b,c] _=>if bt c=true then(match Ah op,Ah wK with | some g,some g'=>toB (chain g g' (aW n Γ 0 a) (aW n Γ 0 b) (aW n Γ 0 c)) | _,_=>cm)else cm
  | e=>if Ay e=true then vk (aW n Γ 0 e)else cm
termination_by structural n=>n
noncomputable def Hf:Nat->Gm->BoolOp->List Expr->Gx PV
 | 0,_,_,_=>cm
 | n+1,Γ,op,[a]=>aW n Γ 0 a
 | n+1,Γ,.And,a::b::r=>OG (aW n Γ 0 a) (Hf n Γ .And (b::r))
 | n+1,Γ,.Or,a::b::r=>WJ (aW n Γ 0 a) (Hf n Γ .Or (b::r))
 | _,_,_,_=>cm
termination_by structural n=>n
noncomputable def Hl:Nat->Gm->BoolOp->List Expr->Gx Bool
 | 0,_,_,_=>cm
 | n+1,Γ,op,[a]=>sy n Γ a
 | n+1,Γ,.And,a::b::r=>oq (sy n Γ a) (Hl n Γ .And (b::r)) (cA false)
 | n+1,Γ,.Or,a::b::r=>oq (sy n Γ a) (cA true) (Hl n Γ .Or (b::r))
 | _,_,_,_=>cm
termination_by structural n=>n
noncomputable def j8:Nat->Gm->Nat->List Expr->Gx (List PV)
 | 0,_,_,_=>cm
 | n+1,Γ,m,[]=>cA []
 | n+1,Γ,m,e::es=>if bt e=true then iV (aW n Γ m e) (j8 n Γ m es)else cm
termination_by structural n=>n
noncomputable def DP:Nat->Gm->Option Expr->Gx (Option Int)
 | 0,_,_=>cm
 | n+1,Γ,none=>cA none
 | n+1,Γ,some e=>FQ (aW n Γ 0 e)
termination_by structural n=>n
noncomputable def Hm:Nat->Gm->Expr->Expr->Gx BL
 | 0,_,_,_=>cm
 | n+1,Γ,tg,e=>match e with
  | .Call (.Name x p) [a] [] cp=>if(x==("range":Str)&&ku Γ x&&bt a)=true then RS (Pk xH (j8 n Γ 0 [a]))
    else if(x==("enumerate":Str)&&ku Γ x&&bt a&&BJ tg)=true then RS (BK (aW n Γ 0 a))
    else Ap (aW n Γ 0 (.Call (.Name x p) [a] [] cp))
  | .Call (.Name x p) [a,b] [] cp=>if(x==("zip":Str)&&ku Γ x&&bt a&&bt b&&BJ tg)=true then RS (P4 (aW n Γ 0 a) (aW n Γ 0 b))
    else Ap (aW n Γ 0 (.Call (.Name x p) [a,b] [] cp))
  | e=>if bt e=true then Ap (aW n Γ 0 e)else cm
termination_by structural n=>n
noncomputable def Qf:Nat->Gm->Nat->Expr->List Comprehension->Scope->Gx PV
 | 0,_,_,_,_,_=>cm
 | n+1,Γ,m,elt,gens,scope=>match gens with
  | [⟨tg,iter,ifs,0⟩]=>if bt iter=true then(match vO n (tY Γ scope) tg with
   | some g=>if qV Γ scope g.2=true then(match ifs with
    | []=>jD (cpm m) (gP Γ scope) (Hm n Γ tg iter) (ox g.1 (aW n (tY Γ scope) (DN m) elt))
    | [c]=>jD (cpm m) (gP Γ scope) (Hm n Γ tg iter) (xF g.1 (sy n (tY Γ scope) c) (aW n (tY Γ scope) (DN m) elt))
    | _=>cm)else cm
   | none=>cm)else cm
  | _=>cm
termination_by structural n=>n
end
def CC(X:Cx)(af:Hp)(ag:Fz)(elt:Expr)(gens:List Comprehension)(scope:Scope)(p:Pos)(f:Gx PV):Prop:=PE X (.ListComp elt gens scope p) (tE X af ag f) /\
  ∀i x p' sp,X.N[i]?=some x->X.env.scope.names.lookup x=some .local->swapsWith (.ListComp elt gens scope p) (some (.Name x p')) sp.line X.env=pure true ->
   PS X (.Assign [.Name x p'] (.ListComp elt gens scope p) sp) (tS X af ag (l4 f (dh i)))
structure Zu (n:Nat):Prop where
 e:∀Γ X af ag m e,GOk Γ X af ag->PE X e (tE X af ag (aW n Γ m e))
 f:∀Γ X af ag m f a es cp,GOk Γ X af ag->(a::es).all bt=true->PE X (.Call f (a::es) [] cp) (tE X af ag (Qg n Γ m f a es cp))
 cn:∀Γ X af ag m x a es p cp,GOk Γ X af ag->(a::es).all bt=true->iJ x=true->vL Γ x=true->PE X (.Call (.Name x p) (a::es) [] cp) (tE X af ag (Qh n Γ m x a es))
 sp:∀Γ X af ag a es p cp,GOk Γ X af ag->(a::es).all bt=true->vL Γ "spread"=true->PE X (.Call (.Name "spread" p) (a::es) [] cp) (tE X af ag (Hg n Γ a es))
 st:∀Γ X af ag a es p cp,GOk Γ X af ag->(a::es).all bt=true->vL Γ "sorted"=true->Γ.dJ.contains "sorted"=true->PE X (.Call (.Name "sorted" p) (a::es) [] cp) (tE X af ag (Hj n Γ a es))
 d:∀Γ X af ag a es p cp,GOk Γ X af ag->(a::es).all bt=true->vL Γ "dict"=true->Γ.dJ.contains "dict"=true->PE X (.Call (.Name "dict" p) (a::es) [] cp) (tE X af ag (Qi n Γ a es))
 li:∀Γ X af ag m a es p cp,GOk Γ X af ag->(a::es).all bt=true->vL Γ "list"=true->Γ.dJ.contains "list"=true->PE X (.Call (.Name "list" p) (a::es) [] cp) (tE X af ag (Hk n Γ m a es))
 is:∀Γ X af ag a es p cp,GOk Γ X af ag->(a::es).all bt=true->vL Γ "isinstance"=true->Γ.dJ.contains "isinstance"=true->PE X (.Call (.Name "isinstance" p) (a::es) [] cp) (tE X af ag (Hh n Γ a es))
 k:∀Γ X af ag a ops bs p,GOk Γ X af ag->PE X (.Compare a ops bs p) (tE X af ag (Qd n Γ a ops bs))
 x:∀Γ X af ag a b p,GOk Γ X af ag->PE X (.Subscript a b p) (tE X af ag (Qe n Γ a b))
 t:∀Γ X af ag e,GOk Γ X af ag->PT X e (tT X af ag (sy n Γ e))
 b:∀Γ X af ag op vs p,GOk Γ X af ag->PE X (.BoolOp op vs p) (tE X af ag (Hf n Γ op vs))
 w:∀Γ X af ag op vs p,GOk Γ X af ag->PW X (.BoolOp op vs p) (tT X af ag (Hl n Γ op vs))
 a:∀Γ X af ag m es,GOk Γ X af ag->PA X es (tA X af ag (j8 n Γ m es))
 l:∀Γ X af ag e,GOk Γ X af ag->PO X e (J6 X af ag (DP n Γ e))
 i:∀Γ X af ag tg e,GOk Γ X af ag->PI X tg e (Er X af ag (Hm n Γ tg e))
 c:∀Γ X af ag m elt gens scope p,GOk Γ X af ag->CC X af ag elt gens scope p (Qf n Γ m elt gens scope)
def pI{X:Cx}{af:Hp}{ag:Fz}{e:Expr}{c:Prop} [Decidable c] {f g:Gx PV} (h:c->PE X e (tE X af ag f)) (h':PE X e (tE X af ag g)):PE X e (tE X af ag (if c then f else g)):=by
 split
 ·exact h ‹_›
 ·exact h'
def pJ{X:Cx}{af:Hp}{ag:Fz}{e:Expr}{c:Prop} [Decidable c] {f:Gx PV} (h:c->PE X e (tE X af ag f)):PE X e (tE X af ag (if c then f else cm)):=pI h aR
def gm:PS X s (tS X af ag cm):=λ_ _ _ _ _ _ ⟨F,st,R,r,z,_⟩=>by cases z
def vR:PS X s (tS X af ag (l4 cm g)):=λ_ _ _ _ _ _ ⟨F,st,R,r,z,_⟩=>by cases z
def U8{ag:Fz}:PO X e (J6 X af ag cm):=λ_ _ _ _ _ _ h=>tZ h
def Ho:Zu 0 where
 e:=λ_ _ _ _ _ _ _=>aR
 f:=λ_ _ _ _ _ _ _ _ _ _ _=>aR
 cn:=λ_ _ _ _ _ _ _ _ _ _ _ _ _ _=>aR
 sp:=λ_ _ _ _ _ _ _ _ _ _ _=>aR
 st:=λ_ _ _ _ _ _ _ _ _ _ _ _=>aR
 d:=λ_ _ _ _ _ _ _ _ _ _ _ _=>aR
 li:=λ_ _ _ _ _ _ _ _ _ _ _ _ _=>aR
 is:=λ_ _ _ _ _ _ _ _ _ _ _ _=>aR
 k:=λ_ _ _ _ _ _ _ _ _=>aR
 x:=λ_ _ _ _ _ _ _ _=>aR
 t:=λ_ _ _ _ _ _=>t8
 b:=λ_ _ _ _ _ _ _ _=>aR
 w:=λ_ _ _ _ _ _ _ _=>He
 a:=λ_ _ _ _ _ _ _=>M0
 l:=λ_ _ _ _ _ _=>U8
 i:=λ_ _ _ _ _ _ _=>M3
 c:=λ_ _ _ _ _ _ _ _ _ _=>⟨aR,λ_ _ _ _ _ _ _=>vR⟩
section
variable {n:Nat} (S:Zu n)
include S
def U9(Γ:Gm)(X:Cx)(af:Hp)(ag:Fz)(op:BoolOp)(vs:List Expr)(p:Pos)(G:GOk Γ X af ag):PE X (.BoolOp op vs p) (tE X af ag (Hf (n+1) Γ op vs)):=by
 match op,vs with
 | .And,[]=>exact aR
 | .Or,[]=>exact aR
 | .And,[a]=>exact E5 (S.e Γ X af ag 0 a G)
 | .Or,[a]=>exact E5 (S.e Γ X af ag 0 a G)
 | .And,a::b::r=>exact TJ (S.e Γ X af ag 0 a G) (S.b Γ X af ag .And (b::r) p G)
 | .Or,a::b::r=>exact Yp (S.e Γ X af ag 0 a G) (S.b Γ X af ag .Or (b::r) p G)
def Va(Γ:Gm)(X:Cx)(af:Hp)(ag:Fz)(op:BoolOp)(vs:List Expr)(p:Pos)(G:GOk Γ X af ag):PW X (.BoolOp op vs p) (tT X af ag (Hl (n+1) Γ op vs)):=by
 match op,vs with
 | .And,[]=>exact He
 | .Or,[]=>exact He
 | .And,[a]=>exact Ji (S.t Γ X af ag a G)
 | .Or,[a]=>exact NU (S.t Γ X af ag a G)
 | .And,a::b::r=>exact TC (S.t Γ X af ag a G) (S.w Γ X af ag .And (b::r) p G)
 | .Or,a::b::r=>exact Yo (S.t Γ X af ag a G) (S.w Γ X af ag .Or (b::r) p G)
def Vb(Γ:Gm)(X:Cx)(af:Hp)(ag:Fz)(m:Nat)(es:List Expr)(G:GOk Γ X af ag):PA X es (tA X af ag (j8 (n+1) Γ m es)):=by
 match es with
 | []=>exact TL
 | e::es =>
  unfold j8;split
  ·rename_i hp;exact OI (S.e Γ X af ag m e G) (S.a Γ X af ag m es G) (bM hp _ _)
  ·exact M0
def Vc(Γ:Gm)(X:Cx)(af:Hp)(ag:Fz)(e:Option Expr)(G:GOk Γ X af ag):PO X e (J6 X af ag (DP (n+1) Γ e)):=by
 match e with
 | none=>exact O2
 | some e=>exact O3 (S.e Γ X af ag 0 e G)
def Vd(Γ:Gm)(X:Cx)(af:Hp)(ag:Fz)(a:Expr)(ops:List CmpOp)(bs:List Expr)(p:Pos)(G:GOk Γ X af ag):PE X (.Compare a ops bs p) (tE X af ag (Qd (n+1) Γ a ops bs)):=by
 rcases ops with _ | ⟨op,_ | ⟨wK,_ | _⟩⟩<;>rcases bs with _ | ⟨b,_ | ⟨c,_ | _⟩⟩<;>try exact aR
 ·show PE X _ (tE X af ag (ite _ _ _));split
  ·rename_i hp;split
   ·rename_i g h1;exact Tu (jU G.un h1) (S.e Γ X af ag 0 _ G) (S.e Γ X af ag 0 _ G) (gY hp _)
   ·exact aR
  ·exact aR
 ·show PE X _ (tE X af ag (ite _ _ _));split
  ·rename_i hp;split
   ·rename_i g g' h1 h2;exact JR (jU G.un h1) (jU G.un h2) (S.e Γ X af ag 0 _ G) (S.e Γ X af ag 0 _ G) (S.e Γ X af ag 0 _ G) (gY hp _)
   ·exact aR
  ·exact aR
def Ve(Γ:Gm)(X:Cx)(af:Hp)(ag:Fz)(e:Expr)(G:GOk Γ X af ag):PT X e (tT X af ag (sy (n+1) Γ e)):=by
 have df:∀e,PT X e (tT X af ag (if Ay e=true then vk (aW n Γ 0 e)else cm)):=λe=>by
  split
  ·rename_i hp;exact Tz (S.e Γ X af ag 0 _ G) λiU=>G9 hp _ iU
  ·exact t8
 cases e with
 | UnaryOp op=>cases op with
  | Not=>exact TF (S.t Γ X af ag _ G)
  | _=>exact df _
 | BoolOp=>exact(S.w Γ X af ag _ _ _ G).pt
 | Compare a ops bs =>
  rcases ops with _ | ⟨op,_ | ⟨wK,_ | _⟩⟩<;>rcases bs with _ | ⟨b,_ | ⟨c,_ | _⟩⟩<;>try exact df _
  ·show PT X _ (tT X af ag (ite _ _ _));split
   ·rename_i hp;split
    ·rename_i g h1;exact Tv (jU G.un h1) (S.e Γ X af ag 0 _ G) (S.e Γ X af ag 0 _ G) (gY hp _)
    ·exact t8
   ·exact t8
  ·show PT X _ (tT X af ag (ite _ _ _));split
   ·rename_i hp;split
    ·rename_i g g' h1 h2;exact JS (jU G.un h1) (jU G.un h2) (S.e Γ X af ag 0 _ G) (S.e Γ X af ag 0 _ G) (S.e Γ X af ag 0 _ G) (gY hp _)
    ·exact t8
   ·exact t8
 | _=>exact df _
def Qj(Γ:Gm)(X:Cx)(af:Hp)(ag:Fz)(a:Expr)(es:List Expr)(p cp:Pos)(G:GOk Γ X af ag)(hp:(a::es).all bt=true)(hg:vL Γ "sorted"=true)(hb:Γ.dJ.contains "sorted"=true):PE X (.Call (.Name "sorted" p) (a::es) [] cp) (tE X af ag (Hj (n+1) Γ a es)):=by
 exact aR
def Vf(Γ:Gm)(X:Cx)(af:Hp)(ag:Fz)(a:Expr)(es:List Expr)(p cp:Pos)(G:GOk Γ X af ag)(hp:(a::es).all bt=true)(hg:vL Γ "dict"=true)(hb:Γ.dJ.contains "dict"=true):PE X (.Call (.Name "dict" p) (a::es) [] cp) (tE X af ag (Qi (n+1) Γ a es)):=by
 rw[jk,aJ]at hp;cases es with
 | cons=>exact aR
 | nil=>exact PH G.hd (G.j7 hg) (G.dJ _ hb) (S.e Γ X af ag 0 _ G) (bM hp.1 _ _)
def Qk(Γ:Gm)(X:Cx)(af:Hp)(ag:Fz)(m:Nat)(a:Expr)(es:List Expr)(p cp:Pos)(G:GOk Γ X af ag)(hp:(a::es).all bt=true)(hg:vL Γ "list"=true)(hb:Γ.dJ.contains "list"=true):PE X (.Call (.Name "list" p) (a::es) [] cp) (tE X af ag (Hk (n+1) Γ m a es)):=by
 rw[jk,aJ]at hp;cases es with
 | cons=>exact aR
 | nil =>
  show PE X _ (tE X af ag (match AE a with | some ⟨zs,_⟩=>_ | none=>cm))
  rcases AE a with _ | ⟨⟨z,b,bs⟩,zp,GG,rfl⟩
  ·exact aR
  ··rcases bs with _ | ⟨c,_ | _⟩
    ·exact aR
    ·refine pJ λhc=>?_
     simp only[ku,aJ]at hc;obtain⟨⟨⟨hx,g1,g2⟩,p1⟩,p2⟩:=hc;have hx:=aV hx;subst hx;exact PU G.hd (G.j7 hg) (G.dJ _ hb) (G.j7 g1) (G.dJ _ g2) (S.e Γ X af ag 0 _ G) (S.e Γ X af ag 0 _ G) (bM p1 _ _) (bM p2 _ _)
    ·exact aR
def Ql(Γ:Gm)(X:Cx)(af:Hp)(ag:Fz)(a:Expr)(es:List Expr)(p cp:Pos)(G:GOk Γ X af ag)(hp:(a::es).all bt=true)(hg:vL Γ "isinstance"=true)(hb:Γ.dJ.contains "isinstance"=true):PE X (.Call (.Name "isinstance" p) (a::es) [] cp) (tE X af ag (Hh (n+1) Γ a es)):=by
 cases es with
 | nil=>exact aR
 | cons e es=>cases e with
  | Name t=>cases es with
   | cons=>exact aR
   | nil =>
    refine pJ λhc=>?_
    unfold ku at hc;rw[aJ]at hc;rw[jk,aJ]at hp;cases h1:BC t with
    | none=>exact aR
    | some g=>exact Yv h1 (G.j7 hg) (G.dJ _ hb) (G.j7 hc.1) (G.dJ _ hc.2) (S.e Γ X af ag 0 a G) λes=>bM hp.1 es _
  | _=>exact aR
def Vg(Γ:Gm)(X:Cx)(af:Hp)(ag:Fz)(a b:Expr)(p:Pos)(G:GOk Γ X af ag):PE X (.Subscript a b p) (tE X af ag (Qe (n+1) Γ a b)):=by
 show PE X _ (tE X af ag (match vQ b with | some ⟨lh,_⟩=>_ | none=>_))
 rcases vQ b with _ | ⟨⟨lo,hi⟩,ps,rfl⟩
 ·show PE X _ (tE X af ag (match AD b with | some ⟨lm,_⟩=>_ | none=>_))
  rcases AD b with _ | ⟨⟨lo,hi⟩,ps,rfl⟩
  rotate_left
  ·exact Ub (S.e Γ X af ag 0 _ G) (S.l Γ X af ag _ G) (S.l Γ X af ag _ G)
  refine pJ λhp=>?_
  have gen:=λa=>Yw (pos:=p) G.un (S.e Γ X af ag 0 a G) (S.e Γ X af ag 0 b G) (qU hp)
  cases a with
  | Name T =>
   refine pI (λhc=>?_) (gen _)
   rw[aJ]at hc;cases h0:Γ.eO.lookup T with
   | some rows=>exact UD (G.eO _ rows h0) (G.j7 hc.2) (S.e Γ X af ag 0 _ G) (qU hp) (gO hc.1).1
   | none =>
    cases h1:Γ.tabs.lookup T with
    | some rows=>exact UE (G.tabs _ rows h1) (G.j7 hc.2) (S.e Γ X af ag 0 _ G) (qU hp) (gO hc.1).1
    | none=>exact gen _
  | _=>exact gen _
 ·exact T4 (S.e Γ X af ag 0 _ G) (S.l Γ X af ag _ G) (S.l Γ X af ag _ G)
def Vh(Γ:Gm)(X:Cx)(af:Hp)(ag:Fz)(tg e:Expr)(G:GOk Γ X af ag):PI X tg e (Er X af ag (Hm (n+1) Γ tg e)):=by
 have df:∀e,PI X tg e (Er X af ag (if bt e=true then Ap (aW n Γ 0 e)else cm)):=λe=>by
  split
  ·exact Gp (S.e Γ X af ag 0 _ G)
  ·exact M3
 cases e with
 | Call f as ks=>cases f with
  | Name x p =>
   rcases as with _ | ⟨a,_ | ⟨b,_ | _⟩⟩<;>rcases ks with _ | _<;>try exact df _
   ·show PI X _ _ (Er X af ag (ite _ _ _));split
    ·rename_i hc;simp only[ku,aJ]at hc;obtain⟨⟨hx,hg,hb⟩,hp⟩:=hc;have hx:=aV hx;subst hx;exact Pn <| Gh (G.j7 hg) (G.dJ _ hb) (S.a Γ X af ag 0 _ G) (bM hp _ _)
    ·split
     ·rename_i hc;simp only[ku,aJ]at hc;obtain⟨⟨⟨hx,hg,hb⟩,hp⟩,ht⟩:=hc;have hx:=aV hx;subst hx;exact Pn <| YL ht (G.j7 hg) (G.dJ _ hb) (S.e Γ X af ag 0 _ G) (bM hp _ _)
     ·exact Gp (S.e Γ X af ag 0 _ G)
   ·show PI X _ _ (Er X af ag (ite _ _ _));split
    ·rename_i hc;simp only[ku,aJ]at hc;obtain⟨⟨⟨⟨hx,hg,hb⟩,hp⟩,Zd⟩,ht⟩:=hc;have hx:=aV hx;subst hx;exact Pn <| UU ht (G.j7 hg) (G.dJ _ hb) (S.e Γ X af ag 0 _ G) (S.e Γ X af ag 0 _ G) (bM hp _ _) (bM Zd _ _)
    ·exact Gp (S.e Γ X af ag 0 _ G)
  | _=>exact df _
 | _=>exact df _
def K5:CC X af ag elt gens scope p cm:=⟨aR,λ_ _ _ _ _ _ _=>vR⟩
def cI{c:Prop} [Decidable c] (h:c->CC X af ag elt gens scope p f):CC X af ag elt gens scope p (if c then f else cm):=by
 split
 ·exact h ‹_›
 ·exact K5
def Vi(Γ:Gm)(X:Cx)(af:Hp)(ag:Fz)(m:Nat)(elt:Expr)(gens:List Comprehension)(scope:Scope)(p:Pos)(G:GOk Γ X af ag):CC X af ag elt gens scope p (Qf (n+1) Γ m elt gens scope):=by
 rcases gens with _ | ⟨⟨tg,iter,ifs,(_ | _) | _⟩,_ | _⟩<;>try exact K5
 refine cI λhp=>?_
 cases h2:vO n (tY Γ scope) tg with
 | none=>exact K5
 | some g =>
  refine cI λhc=>?_
  have SC:=AB G hc;have hL:=(mB hc).2.2.2;have GK:=Hd G hc;have hi:=S.i Γ X af ag tg iter G;have hg:=λC s H fp=>(mz (GK C s H fp af ag) n tg g h2).1
  have kg:=(mz (GK 0 X.s₀ X.af [] af ag) n tg g h2).2.1;have he:=λC s H fp=>S.e _ _ _ _ (DN m) elt (GK C s H fp af ag)
  rcases ifs with _ | ⟨c,_ | _⟩
  ·exact⟨(BH G.calm SC hi (pb1 hg he) (gN hp _)).imp λσ H Q h=>Gq kg hL h,λi x p' sp hx hl hw=>(BI G.calm G.nd hx hl SC hi (pb1 hg he) hw (gN hp _)).imp λD σ H h=>Gq kg hL (oY h)⟩
  ·have ht:=λC s H fp=>S.t _ _ _ _ c (GK C s H fp af ag)
   exact⟨(BH G.calm SC hi (pb2 hg he ht) (gN hp _)).imp λσ H Q h=>Gu kg hL h,λi x p' sp hx hl hw=>(BI G.calm G.nd hx hl SC hi (pb2 hg he ht) hw (gN hp _)).imp λD σ H h=>Gu kg hL (oY h)⟩
  ·exact K5
def Qm(Γ:Gm)(X:Cx)(af:Hp)(ag:Fz)(a:Expr)(es:List Expr)(p cp:Pos)(G:GOk Γ X af ag)(hp:(a::es).all bt=true)(hg:vL Γ "spread"=true):PE X (.Call (.Name "spread" p) (a::es) [] cp) (tE X af ag (Hg (n+1) Γ a es)):=by
 exact aR
def Vj(Γ:Gm)(X:Cx)(af:Hp)(ag:Fz)(m:Nat)(x:Str)(a:Expr)(es:List Expr)(p cp:Pos)(G:GOk Γ X af ag)(hp:(a::es).all bt=true)(hn:iJ x=true)(hg:vL Γ x=true):PE X (.Call (.Name x p) (a::es) [] cp) (tE X af ag (Qh (n+1) Γ m x a es)):=by
 have Du:=hp;rw[jk,aJ]at Du;obtain⟨n1,n2,n3⟩:=gO hn;have ha:=S.a Γ X af ag 0 (a::es) G;have h1:=bM Du.1 es X.env;have h2:=gZ Du.2 X.env cp;refine pI (λhx=>?_) ?_
 ·cases aV hx;exact S.sp Γ X af ag a es p cp G hp hg
 cases hk:Γ.fns.lookup x with
 | some k =>
  refine pI (λ_=>?_) ?_
  ·obtain⟨j,f,fd,ps,F,hr,q1,q2,q3⟩:=G.fns _ k hk;exact Gw (Zr F hr q3) (G.j7 hg) q1 q2 ha n1 h1 h2
  ·cases hd:Γ.js.lookup x with
   | none=>exact aR
   | some ds =>
    obtain⟨j,f,fd,ps,jr,p6,F,hr,q1,q2,r1,r2,q3⟩:=G.js x ds k hd hk;exact Gw (U3 F hr q3 r1 r2) (G.j7 hg) q1 q2 ha n1 h1 h2
 | none=>cases hk:Γ.cls.lookup x with
  | some k=>cases m with
   | zero=>exact aR
   | succ =>
    obtain⟨j,Ca,f,fd,ps,hC,c,M,F,hr,q1,q2⟩:=G.cls _ k hk;exact(JD (p:=p) M F hr (G.j7 hg) q1 q2 .nil td ha n1 h1 h2).imp λσ H Q h=>B7 hC c h
  | none =>
   refine pJ λhb=>pI (λhx=>?_) (pI (λhx=>?_) (pI (λhx=>?_) (pI (λhx=>?_) ?_)))
   ·cases aV hx;exact S.is Γ X af ag a es p cp G hp hg hb
   ·cases aV hx;exact S.st Γ X af ag a es p cp G hp hg hb
   ·cases aV hx;exact S.d Γ X af ag a es p cp G hp hg hb
   ·cases aV hx;exact S.li Γ X af ag m a es p cp G hp hg hb
   cases hg':vP x with
   | some g=>exact Qb hg' G.hd (G.j7 hg) (G.dJ _ hb) ha h1 h2
   | none=>exact aR
def Vk(Γ:Gm)(X:Cx)(af:Hp)(ag:Fz)(m:Nat)(f a:Expr)(es:List Expr)(cp:Pos)(G:GOk Γ X af ag)(hp:(a::es).all bt=true):PE X (.Call f (a::es) [] cp) (tE X af ag (Qg (n+1) Γ m f a es cp)):=by
 have Du:=hp;rw[jk,aJ]at Du;cases f with
 | Name=>exact pJ λhn=>pJ λhg=>S.cn Γ X af ag m _ a es _ cp G hp hn hg
 | Subscript=>exact Ky G.fns G.ns (S.e Γ X af ag 0 _ G) (S.a Γ X af ag 0 _ G) (bM Du.1 _ _) (gZ Du.2 _ _)
 | Attribute o g ap =>
  refine pJ λhc=>?_
  simp only[aJ,uE]at hc;show PE X _ (tE X af ag (match xO g with | some w=>_ | none=>yb (tQ Γ.G8 g) Γ.call g (aW n Γ 0 o) (j8 n Γ 0 (a::es))))
  cases hw:xO g with
  | none=>exact P5 G.G8 (S.e Γ X af ag 0 _ G) (S.a Γ X af ag _ _ G) (jX hc.1.1) (B9 hp hc.2) hc.1.2 (bM Du.1 _ _) (gZ Du.2 _ _)
  | some w=>exact YT G.un hw (S.e Γ X af ag 0 _ G) (S.a Γ X af ag _ _ G) (jX hc.1.1) (B9 hp hc.2) hc.1.2 (bM Du.1 _ _) (gZ Du.2 _ _)
 | _=>exact aR
def Vl(Γ:Gm)(X:Cx)(af:Hp)(ag:Fz)(m:Nat)(e:Expr)(G:GOk Γ X af ag):PE X e (tE X af ag (aW (n+1) Γ m e)):=by
 cases e with
 | Constant c=>cases c<;>first | exact aR | exact Ts | exact Ym | exact Tq | exact Tt
 | Name x =>
  show PE X _ (tE X af ag (Qc Γ x));unfold Qc;split
  ·rename_i hn;split
   ·rename_i hv;split
    ·rename_i i hi;exact Tp i (DO G hn hv hi)
    ·exact aR
   ·split
    ·rename_i hg;split
     ·rename_i q hq;obtain⟨u,v,g1,g2,g3⟩:=G.cons _ q hq;exact xp (u0 (G.j7 hg) g1 g2 (gO hn).1) g3
     ·exact aR
    ·exact aR
  ·exact aR
 | BinOp a op b =>
  refine pI (λhc=>?_) ?_
  ·rw[aJ]at hc;obtain rfl:op=.Add:=by
    cases op<;>first | rfl | cases hc.2
   exact PK (S.e Γ X af ag 0 _ G) (S.e Γ X af ag 0 _ G)
  show PE X _ (tE X af ag (match KW op with | some g=>op2 g (aW n Γ 0 a) (aW n Γ 0 b) | none=>cm))
  cases h1:KW op with
  | none=>exact aR
  | some=>exact Yn (GU h1) (S.e Γ X af ag 0 _ G) (S.e Γ X af ag 0 _ G)
 | UnaryOp op=>cases op with
  | Not=>exact TK (S.e Γ X af ag 0 _ G)
  | USub=>exact T8 (S.e Γ X af ag 0 _ G)
  | _=>exact aR
 | BoolOp=>exact S.b Γ X af ag _ _ _ G
 | Compare=>exact S.k Γ X af ag _ _ _ _ G
 | IfExp=>exact Yq (S.t Γ X af ag _ G) (S.e Γ X af ag m _ G) (S.e Γ X af ag m _ G)
 | Tuple=>exact TM (S.a Γ X af ag m _ G)
 | List=>cases m with
  | zero=>exact TN (S.a Γ X af ag 0 _ G)
  | succ=>exact OK (S.a Γ X af ag _ _ G)
 | Dict ks vs=>match ks,vs with
  | [],[]=>exact UC _
  | [some k],[v]=>exact P8 G.un (S.e Γ X af ag 0 k G) (S.e Γ X af ag 0 v G)
  | [],_::_=>exact aR
  | [none],_=>exact aR
  | [some _],[]=>exact aR
  | [some _],_::_::_=>exact aR
  | none::_::_,[]=>exact aR
  | none::_::_,_::_=>exact aR
  | some _::_::_,[]=>exact aR
  | some _::_::_,_::_=>exact aR
 | Subscript=>exact S.x Γ X af ag _ _ _ G
 | ListComp=>exact(S.c Γ X af ag m _ _ _ _ G).1
 | Attribute =>
  show PE X _ (tE X af ag (ite _ _ _));split
  ·rename_i hb;exact UG (S.e Γ X af ag 0 _ G) (jX hb)
  ·exact aR
 | Call f as ks=>cases as with
  | cons=>cases ks with
   | cons=>exact aR
   | nil =>
    show PE X _ (tE X af ag (ite _ _ _));split
    ·rename_i hp;exact S.f Γ X af ag m _ _ _ _ G hp
    ·exact aR
  | nil=>cases ks with
   | cons=>cases f<;>exact aR
   | nil=>cases f with
    | Attribute =>
     show PE X _ (tE X af ag (ite _ _ _));split
     ·rename_i hc;rw[aJ]at hc;split
      ·rename_i hx;have hx:=aV hx;subst hx;exact P7 (S.e Γ X af ag 0 _ G) (jX hc.1) hc.2
      split
      ·rename_i w hw;exact Uz hw (S.e Γ X af ag 0 _ G) (jX hc.1) hc.2
      ·exact K3 G.G8 (S.e Γ X af ag 0 _ G) (jX hc.1) hc.2
     ·exact aR
    | Name C =>
     refine pJ λhc=>?_
     rw[aJ]at hc;obtain⟨n1,n2,n3⟩:=gO hc.1
     ·cases hk:Γ.cls.lookup C with
      | none=>exact aR
      | some k =>
       obtain⟨j,Ca,f,fd,ps,hC,c,M,F,hr,q1,q2⟩:=G.cls _ k hk;exact(GY M F hr (G.j7 hc.2) q1 q2 .nil td n1).imp λσ H Q h=>GZ hC c h
    | _=>exact aR
 | _=>exact aR
end
theorem snd:∀n:Nat,Zu n
 | 0=>Ho
 | n+1 =>
  have S:=snd n
  ⟨Vl S,Vk S,Vj S,Qm,Qj,Vf S,Qk S,Ql S,Vd S,Vg S,Ve S,U9 S,Va S,Vb S,Vc S,Vh S,Vi S⟩
structure Zv (Γ:Gm) (X:Cx) (af:Hp) (ag:Fz):Prop extends GOk Γ X af ag where
 never:PassesOwn (model X.prog X.w) X.A X.env X.xe
noncomputable def Hq:Expr->Bool
 | .ListComp _ _ _ _=>true
 | _=>false
def AF:G2:=nA (λ_ _=>true) λi j=>.int (i+j)
def AG:Operator->Option G2
 | .Add=>some AF
 | _=>none
def sI{c:Prop} [Decidable c] (h:c->PS X e (tS X af ag f)):PS X e (tS X af ag (if c then f else cm)):=by
 split
 ·exact h ‹_›
 ·exact gm
section
variable {Γ:Gm} {X:Cx} {x:Str} {p sp:Pos} {e:Expr} {op:Operator} {i:Nat} {af:Hp} {ag:Fz} {fe:Gx PV} {g:G2}
def Cc(h:AG op=some g):oV X (inplaceOp op) g:=by
 cases op<;>cases h
 exact eX (tm Ju) (λ_ _ _=>trivial) λ_ _ _=>aG.mpr rfl
def K6{st:bY}(h:rd i st=some r):∃p,st.ρ[i]?=some (some p)/\r=(.ok p,st):=by
 obtain⟨p,e1,e2⟩:=aP h;cases z:st.ρ[i]? with
 | none=>rw[z]at e1;cases e1
 | some o =>
  rw[z]at e1;cases o with
  | none=>cases e1
  | some p'=>cases e1;exact⟨p,rfl,e2.symm⟩
def Vm(ho:oV X (inplaceOp op) g)(he:PE X e (tE X af ag fe))(hN:X.N.Nodup)(hi:X.N[i]?=some x)(hx:Mi X.env.scope x)(hf:X.fn x=true\/X.env.scope.names.lookup x=some .local):PS X (.AugAssign (.Name x p) op e sp) (tS X af ag (l4 (op2 g (rd i) fe) (dh i))):=by
 refine(N4 hN hi hx he (λah s σ H x y v u Q I r1 r2 t=>ho ah s σ H x y v u Q I r1 r2 t) hf).imp λD σ H h=>?_
 obtain⟨F,st,R,h⟩:=oY h;obtain⟨r,e1,e2⟩:=At.bnd h;obtain⟨q,e3,rfl⟩:=K6 e1;obtain⟨v,h3,h4⟩:=R.l.av i q e3;refine⟨v,h3,F,st,R,Tx.bnd (e2) λy w F1 st1 H1 R1 g1 b1 h1=>?_⟩
 obtain⟨z,hz,k⟩:=h1.hp;exact⟨af,ag,F1,st1,σ,q,y,z,hz,R1,h4.mono g1,b1,k⟩
def yc(G:GOk Γ X af ag)(hs:slot Γ x=some i)(hx:RV Γ x=true)(he:PE X e (tE X af ag fe))(hsw:swapsWith e (some (.Name x p)) sp.line X.env=pure false):PS X (.Assign [.Name x p] e sp) (tS X af ag (l4 fe (dh i))):=by
 obtain⟨h1,h2⟩:=G.Qa hx;exact(N3 G.nd (G.tV hs) h1 he hsw h2).imp λD σ H h=>oY h
def AH :
  (swapsWith (.ListComp elt gens scope cp) (some (.Name x p)) sp.line X.env=pure true/\X.env.scope.names.lookup x=some .local)\/swapsWith (.ListComp elt gens scope cp) (some (.Name x p)) sp.line X.env=pure false:=by
 have e:swapsWith (.ListComp elt gens scope cp) (some (.Name x p)) sp.line X.env=pure (X.env.blockKind==.function&&X.env.kindOf x==some .local&&p.line==(Expr.ListComp elt gens scope cp).pos.line&&!(scope.names.any fun(n,k)=>n==x&&(k==.local || k==.cell))):=rfl
 rw[e];cases hb:(X.env.blockKind==.function&&X.env.kindOf x==some .local&&p.line==(Expr.ListComp elt gens scope cp).pos.line&&!(scope.names.any fun(n,k)=>n==x&&(k==.local || k==.cell)))with
 | true =>
  refine .inl ⟨rfl,?_⟩;simp only[aJ]at hb;exact aV hb.1.1.2
 | false=>exact .inr rfl
def DQ(h:(jH e || Hq e)=true)(l:Nat)(env:Env):swapsWith e (some (.Attribute a x p)) l env=pure false:=by
 cases e<;>first | rfl | cases h
def DR{a x:Expr}(h:(jH e || Hq e)=true)(l:Nat)(env:Env):swapsWith e (some (.Subscript a x p)) l env=pure false:=by
 cases e<;>first | rfl | cases h
def AI(h:o7 k=true)(env:Env)(v:Value):assign (.Subscript o k p) env v=(do
   let ov <-holding [v] (eval o env)
   let iv <-holding [v,ov] (eval k env)
   standAt p
   holding [v,ov,iv] (setItem ov iv v)
   release [v,ov,iv] []):=by
 cases k<;>first | rfl | cases h
def AJ(env:Env):swappedStores [.Subscript o k p] e env=pure none:=by
 cases e<;>rfl
end
def WHL:Nat:=8000000
def isD(Γ:Gm):Expr->Bool
 | .Name x _=>md Γ x==10
 | _=>false
noncomputable def RET:Str:="[return]"
def asName(n:Nat)(Γ:Gm)(x:Str)(e:Expr):Gx dB:=if(RV Γ x&&(jH e || Hq e))=true then(match slot Γ x with | some i=>l4 (aW n Γ (md Γ x) e) (dh i) | none=>cm)else cm
noncomputable def M4(n:Nat)(Γ:Gm)(tg e:Expr):Gx dB:=match tg with
 | .Name x _=>asName n Γ x e
 | .Tuple ts k p=>if B8 e=true then(match vO n Γ (.Tuple ts k p)with | some g=>l4 (aW n Γ 0 e) g.1 | none=>cm)else cm
 | .Subscript o k _=>if(o7 k&&(jH e || Hq e))=true then Py (aW n Γ (U6 Γ o) e) (aW n Γ 0 o) (aW n Γ 0 k)else cm
 | .Attribute o f _=>if(jH e || Hq e)=true then KA Γ.clss Γ.flds f (aW n Γ (md Γ f) e) (aW n Γ 0 o)else cm
 | _=>cm
noncomputable def M5(n:Nat)(Γ:Gm)(tg:Expr)(op:Operator)(e:Expr):Gx dB:=match tg with
 | .Name x _=>if RV Γ x=true then(match slot Γ x,AG op with | some i,some g=>l4 (op2 g (rd i) (aW n Γ 0 e)) (dh i) | _,_=>cm)else cm
 | .Attribute o f _=>(match AG op with | some g=>G0 Γ.clss Γ.flds f g (aW n Γ 0 o) (aW n Γ 0 e) | none=>cm)
 | _=>cm
mutual
noncomputable def Qn:Nat->Gm->Stmt->Gx dB
 | 0,_,_=>cm
 | n+1,Γ,st=>match st with
  | .Pass _=>cA .nx
  | .Break _=>cA .bk
  | .Continue _=>cA .ct
  | .Return none _=>cA (.rt .aL)
  | .Return (some e) _=>if md Γ RET==7 then FK (Pp (aW n Γ 1 e))else FK (aW n Γ (md Γ RET) e)
  | .If c a b _=>oq (sy n Γ c) (iX n Γ a) (iX n Γ b)
  | .While c b [] _=>k9 (sy n Γ c) (iX n Γ b) WHL
  | .For tg iter body [] _=>if bt iter=true then(match vO n Γ tg with | some g=>if isD Γ iter=true then cm else Ku (Hm n Γ tg iter) g.1 (iX n Γ body) | none=>cm)else cm
  | .Expr e _=>if jH e=true then Bw (aW n Γ 0 e)else cm
  | .Assign [tg] e _=>M4 n Γ tg e
  | .AugAssign tg op e _=>M5 n Γ tg op e
  | .Try body (_::_) [] [] _=>if(Γ.DL.isNone&&Γ.DM.isNone)=true then DK (iX n Γ body)else cm
  | _=>cm
termination_by structural n=>n
noncomputable def iX:Nat->Gm->List Stmt->Gx dB
 | 0,_,_=>cm
 | n+1,Γ,[]=>cA .nx
 | n+1,Γ,[st]=>Qn n Γ st
 | n+1,Γ,st::RW=>qC (Qn n Γ st) (iX n Γ RW)
termination_by structural n=>n
end
structure Zw (n:Nat):Prop where
 s:∀Γ X af ag st,Zv Γ X af ag->PS X st (tS X af ag (Qn n Γ st))
 ss:∀Γ X af ag RW,Zv Γ X af ag->PSs X RW (tS X af ag (iX n Γ RW))
def Qo:PSs X s (tS X af ag cm):=λ_ _ _ _ _ _ ⟨F,st,R,r,z,_⟩=>by cases z
def Qp(G:GOk Γ X af ag):PS X (.Assign [tg] e sp) (tS X af ag (M4 n Γ tg e)):=by
 have S:=snd n;cases tg with
 | Name x p =>
  refine sI λhc=>?_
  rw[aJ]at hc;cases hi:slot Γ x with
  | none=>exact gm
  | some i =>
   rcases Bool.or_eq_true _ _▸hc.2 with hn | hl
   ·exact yc G hi hc.1 (S.e Γ X af ag _ _ G) (jI hn _ _ _)
   ·cases e<;>try (exact absurd hl cf)
    rcases AH with⟨z,hl⟩ | z
    ·cases n with
     | zero=>exact vR
     | succ n=>exact((snd n).c Γ X af ag _ _ _ _ _ G).2 i x p sp (G.tV hi) hl z
    ·exact yc G hi hc.1 (S.e Γ X af ag _ _ G) z
 | Tuple ts k tp =>
  refine sI λhc=>?_
  cases h1:vO n Γ (.Tuple ts k tp)with
  | none=>exact gm
  | some g =>
   obtain⟨g1,g2,g3,g4⟩:=mz G n _ g h1;refine TU (S.e Γ X af ag _ _ G) g1 (jI (vN hc) (some (Expr.Tuple ts k tp)) sp.line X.env) ?_ (g3 _);cases e<;>first | rfl | cases hc
 | Subscript o k tp =>
  refine sI λhc=>?_
  rw[aJ]at hc;exact UB G.un (S.e Γ X af ag _ _ G) (S.e Γ X af ag _ _ G) (S.e Γ X af ag _ _ G) (AI hc.1 _) (DR (a:=o) (x:=k) (p:=tp) hc.2 sp.line X.env) (AJ _)
 | Attribute=>exact sI λhc=>UH G.MZ (S.e Γ X af ag _ _ G) (S.e Γ X af ag _ _ G) (DQ hc _ _)
 | _=>exact gm
def Qq(G:GOk Γ X af ag):PS X (.AugAssign tg op e sp) (tS X af ag (M5 n Γ tg op e)):=by
 cases tg with
 | Name x p =>
  refine sI λhc=>?_
  cases h1:slot Γ x with
  | none=>exact gm
  | some i=>cases h2:AG op with
   | none=>exact gm
   | some g =>
    obtain⟨l1,l2⟩:=G.Qa hc;exact Vm (Cc h2) ((snd n).e Γ X af ag _ _ G) G.nd (G.tV h1) l1 l2
 | Attribute o f p =>
  cases h2:AG op with
  | none=>show PS X _ (tS X af ag (match AG op with | some g=>G0 Γ.clss Γ.flds f g (aW n Γ 0 o) (aW n Γ 0 e) | none=>cm));rw[h2];exact gm
  | some g=>show PS X _ (tS X af ag (match AG op with | some g=>G0 Γ.clss Γ.flds f g (aW n Γ 0 o) (aW n Γ 0 e) | none=>cm));rw[h2];exact P6 G.MZ ((snd n).e Γ X af ag _ _ G) ((snd n).e Γ X af ag _ _ G) (Cc h2)
 | _=>exact gm
theorem Zx:∀n:Nat,Zw n
 | 0=>⟨λ_ _ _ _ _ _=>gm,λ_ _ _ _ _ _=>Qo⟩
 | n+1=>by
  have T:=Zx n;have S:=snd n;refine⟨λΓ X af ag st G=>?_,λΓ X af ag RW G=>?_⟩
  ·cases st with
   | Pass=>exact ON
   | Break=>exact JV
   | Continue=>exact OO
   | Return e=>cases e with
    | none=>exact OP
    | some e =>
     show PS X _ (tS X af ag (ite _ _ _));split
     ·exact Mw (Uu (S.e Γ X af ag _ _ G.toGOk))
     ·exact Mw (S.e Γ X af ag _ _ G.toGOk)
   | If=>exact Yr (S.t Γ X af ag _ G.toGOk) (T.ss Γ X af ag _ G) (T.ss Γ X af ag _ G)
   | While c b o=>cases o with
    | nil=>exact JY WHL G.never (S.t Γ X af ag _ G.toGOk) (T.ss Γ X af ag _ G)
    | cons=>exact gm
   | For tg iter body o=>cases o with
    | cons=>exact gm
    | nil =>
     refine sI λhp=>?_
     cases h1:vO n Γ tg with
     | none=>exact gm
     | some g =>
      show PS X _ (tS X af ag (ite _ _ _));split
      ·exact gm
      ·exact Po G.never G.calm (S.i Γ X af ag _ _ G.toGOk) (mz G.toGOk n _ g h1).1 (T.ss Γ X af ag _ G) (gN hp _)
   | Expr=>exact sI λhc=>OQ (S.e Γ X af ag _ _ G.toGOk) (jI hc _ _ _)
   | Assign ts=>rcases ts with _ | ⟨_,_ | _⟩<;>first | exact Qp G.toGOk | exact gm
   | AugAssign=>exact Qq G.toGOk
   | Try body hs el jc =>
    rcases hs with _ | _<;>rcases el with _ | _<;>rcases jc with _ | _<;>try exact gm
    exact sI λhc=>U2 (T.ss Γ X.RJ af ag body ⟨G.toGOk.RJ hc,λ_ _ z=>False.elim z⟩)
   | _=>exact gm
  ·rcases RW with _ | ⟨st,_ | _⟩
   ·exact OL
   ·exact OM (T.s Γ X af ag st G)
   ·exact JU (T.s Γ X af ag st G) (T.ss Γ X af ag _ G)
def K7{P:Program}{w:World}{K:W.Frag}{mg:Str->Option Value}{base:Heap}{x qual:Str}{st:Stmt}{f:Addr}{fd:FuncData}{dV:Value}{N ps:List Str}{k:Nat}{sp:Sp}(F:rZ K x qual st f fd dV)(S:cM N ps (aw st))(len:∀vs H Q E,sp vs H Q E->vs.length=ps.length)
  (hbody:∀(cW:Value) (A:Around) (aB:List Env) (s:Shared) (H:Hp) (vs:List V) (Q:VK) (E:XK),vC K f cW->c7 k (A.deeper (envOfC qual (aw st) s.heap.objs.size f cW))->sp vs H Q E ->
   ∃t,PSs (fq (ij P w) P w K mg base N qual (aw st) f cW A aB s H E) (b8 st) t/\t {nx:=λ_ H'=>Q .aL H',rt:=Q} (start N vs) H):FnOk P w K mg base (ij P w) (k+1) f fd ps sp:=by
 obtain⟨oc,od,kV,doc,pm,an,cW,ct,pZ,rfl,lk,wI⟩:=F.ex;exact Mq lk wI S len λA aB s H vs Q E hr Mr=>hbody cW A aB s H vs Q E ⟨oc,od,_,pZ,lk,rfl⟩ hr Mr
def Qr{P:Program}{w:World}{K:W.Frag}{mg:Str->Option Value}{base:Heap}{x qual:Str}{st:Stmt}{f:Addr}{fd:FuncData}{N ps:List Str}{k:Nat}{fb:Gx dB}{dV:Value}(F:rZ K x qual st f fd dV)(S:cM N ps (aw st))
  (hbody:∀(cW:Value) (A:Around) (aB:List Env) (s:Shared) (H:Hp) (E:XK),vC K f cW->c7 k (A.deeper (envOfC qual (aw st) s.heap.objs.size f cW))->∀(af:Hp) (ag:Fz),
   PSs (fq (ij P w) P w K mg base N qual (aw st) f cW A aB s H E) (b8 st) (tS (fq (ij P w) P w K mg base N qual (aw st) f cW A aB s H E) af ag fb)):FnOk P w K mg base (ij P w) (k+1) f fd ps (tJ K ps.length (gT fb N.length)):=by
 refine K7 F S (by rintro vs H Q E ⟨_,_,_,_,_,_,_,_,b,hl,_⟩;rw[<-b.length];exact hl) λcW A aB s H vs Q E WS hr z9=>?_
 obtain⟨af,F,h,as,r,h',C,full,b,hl,hf,res⟩:=z9;refine⟨_,hbody cW A aB s H E WS hr af F,F,⟨gj N.length as,h⟩,⟨C,xK b⟩,?_⟩;obtain⟨q,e1,e2⟩:=aO hf;refine⟨q,e1,?_⟩;rcases q with⟨f | ⟨m,c⟩,st⟩
 ·cases f with
  | rt=>cases e2;exact λv F' H' C' g b'=>res v F' H' C' b'
  | nx=>cases e2;exact λF' bG H' R g=>res .aL F' H' R.c (cX.mpr rfl)
  | _=>cases e2
 ·cases e2;cases m with
  | true=>exact λF' bG H' ah s1 h1 a cls vs R sf I hc hm=>BR I hm (BS full R.c) (res cls F' H' R.c hc)
  | false=>exact λbG ah H1 s1 e s' I h=>xJ I h (by rintro cls H2 ⟨hc,F',R,sf⟩;exact⟨BS full R.c,res cls F' H2 R.c hc⟩)
def AK:Nat:=120
abbrev CT:=Str->jW
noncomputable def noFn:CT:=λ_ _ _=>none
def K8(P:Pg):List (Str×Nat):=P.cls.map λd=>(d.1,(params d.2).length)
def Vn(P:Pg)(x:Str)(st:Stmt)(cls:List (Str×Nat))(make:CT)(DL:Option ((PV->Gx PV)->Nat->jW))(DM:Option (Nat×(PV->Gx PV)))(c:CT):Gm where
 sc:=(aw st).names
 N:=bS st
 own:=true
 fns:=P.defs.map λd=>(d.1,(params d.2).length)
 call:=c
 cons:=P.cons
 dJ:=P.dJ
 tabs:=P.tabs
 eO:=P.eO
 cls:=cls
 make:=make
 clss:=P.cls.map (·.1)
 flds:=P.flds
 Sk:=(P.Sk.lookup x).getD []
 DL:=DL
 DM:=DM
 G8:=P.gE.map λd=>((d.2.1,d.2.2.1),(d.1,(params d.2.2.2).length))
 js:=P.js
 wV:=P.wV
def rdI(P:Pg)(C:Str)(st:Stmt)(c:CT):Gx dB:=iX AK (Vn P C st [] noFn none none c) (b8 st)
def RX(P:Pg)(c:CT):CT:=λC=>match P.cls.lookup C with | some st=>gT (rdI P C st c) (bS st).length | none=>λ_ _=>none
noncomputable def Vo(P:Pg)(x:Str)(c:CT):Option ((PV->Gx PV)->Nat->jW):=none
def Zy(P:Pg)(x:Str)(st:Stmt)(c:CT):Gx dB:=iX AK (Vn P x st (K8 P) (RX P c) (Vo P x c) none c) (b8 st)
noncomputable def kZ(P:Pg)(x:Str):Option Stmt:=match P.defs.lookup x with | some st=>some st | none=>(P.gE.lookup x).map (·.2.2)
def run(P:Pg):Nat->CT
 | 0=>noFn
 | k+1=>λx=>match kZ P x with | some st=>gT (Zy P x st (run P k)) (bS st).length | none=>λ_ _=>none
def Qs{P:Pg}{k:Nat}{x:Str}{st:Stmt}(h:kZ P x=some st):run P (k+1) x=gT (Zy P x st (run P k)) (bS st).length:=by
 show(match kZ P x with | some st=>gT (Zy P x st (run P k)) (bS st).length | none=>λ_ _=>none)=_
 rw[h]
theorem g7{α β:Type}(g:α->β)(x:Str):∀l:List (Str×α),(l.map λd=>(d.1,g d.2)).lookup x=(l.lookup x).map g
 | []=>rfl
 | (n,a)::r=>by
  rw[aQ,dy,dy];cases x==n with
  | true=>rfl
  | false=>exact g7 g x r
section
variable {prog:Program} {w:World} {K:W.Frag} {mg:Str->Option Value} {base:Heap}
structure oC (P:Pg) (w:World) (K:W.Frag) (mg:Str->Option Value):Prop where
 fns:∀x st,P.defs.lookup x=some st->∃f fd dV,rZ K x x st f fd dV/\cL K fd (params st) []/\mg x=some (.ref f)/\cM (bS st) (params st) (aw st)/\∀ds,P.js.lookup x=some ds->∃jr p6,Vals jr p6/\(∀F,ay K F ds jr)/\cL K fd (params st) p6
 gE:∀d∈P.gE,∃Ca f fd dV,ClsAt K d.2.1 (.ref Ca)/\EB K Ca d.2.2.1 f/\rZ K d.2.2.1 d.1 d.2.2.2 f fd dV/\cL K fd (params d.2.2.2) []/\cM (bS d.2.2.2) (params d.2.2.2) (aw d.2.2.2)/\kZ P d.1=some d.2.2.2
 wV:∀C,P.wV.contains C=true->∃Ca,ClsAt K C (.ref Ca)/\rY K Ca/\Xm K Ca/\mg C=some (.ref Ca)
 cons:∀x p,P.cons.lookup x=some p->∃u v,mg x=some u/\RelV v u/\∀F,bj K F p v
 dJ:∀x,P.dJ.contains x=true->mg x=none
 tabs:∀T rows,P.tabs.lookup T=some rows->BU K mg w.params T rows
 eO:∀T rows,P.eO.lookup T=some rows->vD K mg w.params T rows
 ns:∀x a,W.nsIn K mainGlobals x=some (some (.ref a))->mg x=some (.ref a)
 MZ:xQ K (P.cls.map (·.1)) P.flds
 cls:∀C st,P.cls.lookup C=some st->∃Ca f fd,ClsAt K C (.ref Ca)/\rY K Ca/\Mk K Ca f/\mg C=some (.ref Ca)/\Mc K "__init__" (C++".__init__") st f fd/\cL K fd (params st) []/\cM (bS st) (params st) (aw st)
def FR(P:Pg)(prog:Program)(w:World)(K:W.Frag)(mg:Str->Option Value)(base:Heap)(k:Nat):Prop:=∀(x nm q:Str) (st:Stmt) (f:Addr) (fd:FuncData) (dV:Value),kZ P x=some st->rZ K nm q st f fd dV->cM (bS st) (params st) (aw st) ->
 FnOk prog w K mg base (ij prog w) (3*k) f fd (params st) (tJ K (params st).length (run P k x))
def qW{P:Pg}{x:Str}{st:Stmt}(h:P.defs.lookup x=some st):kZ P x=some st:=by
 unfold kZ;rw[h]
section
variable {P:Pg} (O:oC P w K mg) {k:Nat} (ih:FR P prog w K mg base k)
include O ih
def Vp{X:Cx}(h1:X.prog=prog)(h2:X.w=w)(h3:X.K=K)(h4:X.mg=mg)(h5:X.base=base):U5 X (3*k) (P.defs.map λd=>(d.1,(params d.2).length)) (run P k):=λy n hy=>by
 subst h1 h2 h3 h4 h5;rw[g7 (λst=>(params st).length)]at hy
 obtain⟨st',h1,h2⟩:=aP hy;subst h2;obtain⟨f',Es,dV,F1,B1,m1,S1,_⟩:=O.fns y st' h1;exact⟨3*k,f',Es,params st',aF _,ih y y y st' f' Es dV (qW h1) F1 S1,m1,F1.kp,B1⟩
def Vq{X:Cx}(h1:X.prog=prog)(h2:X.w=w)(h3:X.K=K)(h4:X.mg=mg)(h5:X.base=base)(hr:c7 (3*k) X.A):MX X (P.defs.map λd=>(d.1,(params d.2).length)) (run P k) P.js:=λy ds n hd hy=>by
 subst h1 h2 h3 h4 h5;rw[g7 (λst=>(params st).length)]at hy
 obtain⟨st',h1,h2⟩:=aP hy;subst h2;obtain⟨f',Es,dV,F1,B1,m1,S1,D1⟩:=O.fns y st' h1;obtain⟨jr,p6,d1,d2,d3⟩:=D1 ds hd;exact⟨3*k,f',Es,params st',jr,p6,ih y y y st' f' Es dV (qW h1) F1 S1,hr,m1,F1.kp,d1,d2,d3⟩
def Vr{X:Cx}(h1:X.prog=prog)(h2:X.w=w)(h3:X.K=K)(h4:X.mg=mg)(h5:X.base=base)(hr:c7 (3*k) X.A):vJ X (P.gE.map λd=>((d.2.1,d.2.2.1),(d.1,(params d.2.2.2).length))) (run P k):=λC m y hy=>by
 subst h1 h2 h3 h4 h5;obtain⟨d,hd,e⟩:=bX.mp hy;cases e;obtain⟨Ca,f',Es,dV,c1,M1,F1,B1,S1,L1⟩:=O.gE d hd;exact⟨3*k,f',Es,params d.2.2.2,Ca,c1,M1,ih d.1 d.2.2.1 d.1 d.2.2.2 f' Es dV L1 F1 S1,hr,B1⟩
def M6{st:Stmt}{x q:Str}{f:Addr}{cW:Value}{A:Around}{aB:List Env}{s:Shared}{H af:Hp}{ag:Fz}{E:XK}{cls:List (Str×Nat)}{make:CT}{DL:Option ((PV->Gx PV)->Nat->jW)}{DM:Option (Nat×(PV->Gx PV))}{j:Nat}(S:cM (bS st) (params st) (aw st))
  (hr:c7 j (A.deeper (envOfC q (aw st) s.heap.objs.size f cW))) (hj:3*k<=j) (hcl:∀C n,cls.lookup C=some n->∃k' Ca f' fd ps,ClsAt K C (.ref Ca)/\rY K Ca/\Mk K Ca f'/\FnOk prog w K mg base (ij prog w) k' f' fd ps (tJ K n (make C))/\c7 (k'+1) (A.deeper (envOfC q (aw st) s.heap.objs.size f cW))/\mg C=some (.ref Ca)/\cL K fd ps [])
  (Zz:∀rs,DL=some rs->MY (Vn P x st cls make DL DM (run P k)) (fq (ij prog w) prog w K mg base (bS st) q (aw st) f cW A aB s H E) rs)
  (ZA:∀n ω,DM=some (n,ω)->GF (fq (ij prog w) prog w K mg base (bS st) q (aw st) f cW A aB s H E) af ag n ω) :
  Zv (Vn P x st cls make DL DM (run P k)) (fq (ij prog w) prog w K mg base (bS st) q (aw st) f cW A aB s H E) af ag:=by
 refine⟨⟨rfl,rfl,S.nd,S.kind,rfl,hr.hd,?_,λ_ _=>rfl,λy n hy=>?_,O.cons,O.dJ,O.tabs,O.eO,O.ns,O.MZ,hcl,Zz,ZA,Vr (X:=fq (ij prog w) prog w K mg base (bS st) q (aw st) f cW A aB s H E) O ih rfl rfl rfl rfl rfl (hr.mono hj),Vq (X:=fq (ij prog w) prog w K mg base (bS st) q (aw st) f cW A aB s H E) O ih rfl rfl rfl rfl rfl (hr.mono hj),O.wV⟩,PassesOwn.leaving⟩
 ·have:=hr.un;show(A.deeper _).units+1150<cLine
  lia
 ·obtain⟨i,f',Es,ps,h1,h2,h3,h4,h5⟩:=Vp (X:=fq (ij prog w) prog w K mg base (bS st) q (aw st) f cW A aB s H E) O ih rfl rfl rfl rfl rfl y n hy;exact⟨i,f',Es,ps,h2,hr.mono (aY h1 hj),h3,h4,h5⟩
def Hr{C:Str}{st:Stmt}{f:Addr}{fd:FuncData}(h:P.cls.lookup C=some st)(F:Mc K "__init__" (C++".__init__") st f fd)(S:cM (bS st) (params st) (aw st)):FnOk prog w K mg base (ij prog w) (3*k+1) f fd (params st) (tJ K (params st).length (RX P (run P k) C)):=by
 have e:RX P (run P k) C=gT (rdI P C st (run P k)) (bS st).length:=by
  unfold RX;rw[h]
 rw[e];exact Pt F S λcW A aB s H E _ hr af ag=>(Zx AK).ss _ _ af ag _ (M6 O ih S hr (aF _) (λ_ _ z=>by cases z) (λ_ z=>by cases z) λ_ _ z=>by cases z)
end
theorem Ht{P:Pg}(O:oC P w K mg)(hB:P.r6≠[]->FE mg base):∀(k:Nat),FR P prog w K mg base k
 | 0=>λx nm q st f fd dV h F S=>by
  have no:∀vs H Q E,¬tJ K (params st).length (run P 0 x) vs H Q E:=λvs H Q E ⟨_,_,_,_,_,_,_,_,_,_,z,_⟩=>by cases z
  exact⟨λvs H Q E h=>absurd h (no vs H Q E),λA aB s H args us vs Q E _ _ _ _ h=>absurd h (no vs H Q E)⟩
 | k+1=>λx nm q st f fd dV h F S=>by
  have ih:=Ht (P:=P) O hB k;rw[Qs h];refine Qr (k:=3*k+2) F S λcW A aB s H E WS hr af ag=>(Zx AK).ss _ _ af ag _ (M6 O ih S hr (zo _ _) (λC n hy=>?_) (λrs e=>by cases e) λ_ _ z=>by cases z)
  unfold K8 at hy;rw[g7 (λst=>(params st).length)]at hy
  obtain⟨st',h1,h2⟩:=aP hy;subst h2;obtain⟨Ca,f',Es,a,c,M,m1,F1,B1,S1⟩:=O.cls C st' h1;exact⟨3*k+1,Ca,f',Es,params st',a,c,M,Hr O ih h1 F1 S1,hr,m1,B1⟩
def yd(ns:List Int):PV:=.lst (ns.map .int)
theorem ye{F:Fz}:∀ns:List Int,ay K F (ns.map .int) (ns.map V.int)
 | []=>.nil
 | n::r=>.cons (aG.mpr rfl) (ye r)
end
theorem fM{α β:Type} [BEq α] [LawfulBEq α] {k:α} {v:β}:∀{l:List (α×β)},l.lookup k=some v->(k,v)∈l
 | [],h=>by cases h
 | (a,b)::l,h=>by
  rw[dy]at h;cases z:k==a with
  | true =>
   rw[z]at h;cases h;rw[aV z];exact dw
  | false =>
   rw[z]at h;exact cG _ (fM h)
def CP.at{K:W.Frag}{h:Heap}{mg:Str->Option Value}{P:Params}{T:Str}{rows:List (Str×Str)}(x:CP K P T rows)(X:K.In h)(G:h.Ns mainGlobals mg):BU K mg P T rows:=by
 obtain⟨a,es,n,h1,h2,h3,h4⟩:=x;refine⟨a,es,n,W.mg_of X G h1,h2,h3,λk fn e=>?_⟩
 obtain⟨f,h5,h6⟩:=h4 (k,fn) (fM e);exact⟨f,h5,W.mg_of X G h6,h6⟩
def wW.at{K:W.Frag}{h:Heap}{mg:Str->Option Value}{P:Params}{T:Str}{rows:List (Str×PV)}(x:wW K P T rows)(X:K.In h)(G:h.Ns mainGlobals mg):vD K mg P T rows:=by
 obtain⟨a,es,n,h0,h1,h2,h3,h4⟩:=x;exact⟨a,es,n,h0,W.mg_of X G h1,h2,h3,λk p e=>h4 (k,p) (fM e)⟩
def ED.at{K:W.Frag}{h base:Heap}{mg:Str->Option Value}(b:ED K)(X:K.In h)(G:h.Ns mainGlobals mg)(Y:K.In base):FE mg base :=
 let ⟨bm,o,h1,h2,h3,h4,h5⟩:=b;⟨bm,o,W.mg_of X G h1,h2,h3,Y _ _ h4,h5⟩
def yf(K:W.Frag):List (Addr×Str):=dI.filterMap λx=>(W.tabIn K x).map λcT=>(cT.2,Jf x)
def DS(K:W.Frag):(yf K).map (·.1)=dI.filterMap λx=>(W.tabIn K x).map (·.2):=by
 unfold yf;rw[List.map_filterMap]
 congr 1
 funext x
 cases W.tabIn K x<;>rfl
def lK.tabs{K:W.Frag}{h:Heap}(t:lK K h)(X:K.In h):(∀b q,(yf K).lookup b=some q->h.get? b=some {cls:=.none,data:=.fields #[]}/\isCodeTable h b/\K.lookup b=none)/\∀H:Hp,(∀b q,(yf K).lookup b=some q->H b=some (.zE q))->qd K H:=by
 refine⟨λb q e=>?_,λH hH x hx c T e=>?_⟩
 ·have hm:=fM e;unfold yf at hm;obtain⟨x,hx,e2⟩:=pB.mp hm;obtain⟨cT,e3,e4⟩:=kC.mp e2;cases e4;obtain⟨h1,h2,h3⟩:=t.at_ x hx cT.1 cT.2 e3;obtain⟨o,vs,_,_,_,_,_,_,_,g1,g2,g3,g4,_⟩:=W.codeHd_of_K X h1;exact⟨h2,⟨_,o,vs,g1,g2,g3,g4⟩,h3⟩
 ·refine hH T (Jf x) (jQ (by rw[DS];exact t.nd) ?_)
  exact pB.mpr ⟨x,hx,by rw[e];rfl⟩
def Vt(P:Pg):Bool:=P.r6.isEmpty || (match P.defs.lookup ("spread":Str)with | some st=>(params st).length==2 | none=>true)
theorem iY{α β:Type} [BEq α] [LawfulBEq α] {x:α}:∀{l:List (α×β)},x∉l.map (·.1)->l.lookup x=none
 | [],_=>rfl
 | (a,b)::l,h=>by
  rw[aQ,aC,not_or]at h;rw[dy,hZ.mpr h.1];exact iY h.2
theorem Hu{P:Pg}(hn:(P.defs.map (·.1)++P.gE.map (·.1)).Nodup){d:Str×(Str×Str×Stmt)}(hd:d∈P.gE):kZ P d.1=some d.2.2.2:=by
 rw[zk]at hn;have h1:P.defs.lookup d.1=none:=iY λz=>hn.2.2 _ z _ (uB (f:=λy:Str×(Str×Str×Stmt)=>y.1) hd) rfl
 have h2:P.gE.lookup d.1=some d.2:=jQ hn.2.1 hd;unfold kZ;rw[h1,h2];rfl
def ZC{P:Pg}{K:W.Frag}{h:Heap}{mg:Str->Option Value}(X:K.In h)(G:h.Ns mainGlobals mg)(hd:∀d∈P.defs,EC K P.js d.1 d.2)(hm:∀d∈P.gE,Nw K d)(hm0:∀C∈P.wV,Nx K C)(ND:(P.defs.map (·.1)++P.gE.map (·.1)).Nodup)
  (hc:∀d∈P.cons,∃u v,W.nsIn K mainGlobals d.1=some (some u)/\RelV v u/\∀F,bj K F d.2 v) (hb:∀x∈P.dJ,W.nsIn K mainGlobals x=some none) {w:World} (ht:∀d∈P.tabs,CP K w.params d.1 d.2) (hcl:∀d∈P.cls,Nv K d.1 d.2 P.flds) (hct:∀d∈P.eO,wW K w.params d.1 d.2) (LS:Vt P=true) (hlm:∀x∈P.r6,Ny K x):oC P w K mg where
 fns:=λx st e=>by
  obtain⟨⟨f,fd,dV,a,F,b,c,_⟩,s⟩:=hd (x,st) (fB e);exact⟨f,fd,dV,F,b,W.mg_of X G a,s,c⟩
 gE:=λd hdm=>by
  obtain⟨Ca,f,fd,dV,h1,h2,h3,h4,h5⟩:=hm d hdm;exact⟨Ca,f,fd,dV,h1,h2,h3,h4,h5,Hu ND hdm⟩
 wV:=λC e=>by
  obtain⟨Ca,h1,h2,h3⟩:=hm0 C (by simpa using e)
  exact⟨Ca,h1,h2,h3,W.mg_of X G h1⟩
 cons:=λx p e=>by
  obtain⟨u,v,a,r,b⟩:=hc (x,p) (fB e);exact⟨u,v,W.mg_of X G a,r,b⟩
 dJ:=λx e=>W.mg_none_of X G (hb x (by simpa using e))
 tabs:=λT rows e=>(ht (T,rows) (fM e)).at X G
 eO:=λT rows e=>(hct (T,rows) (fM e)).at X G
 ns:=λx a e=>W.mg_of X G e
 MZ:=λC e=>by
  have e:C∈P.cls.map (·.1):=by simpa using e
  obtain⟨d,hd,rfl⟩:=bX.mp e;obtain⟨Ca,f,fd,a,M,c,na,F,b,s⟩:=hcl d hd;exact⟨Ca,a,c,λg hg=>na g (by simpa using hg)⟩
 cls:=λC st e=>by
  obtain⟨Ca,f,fd,a,M,c,na,F,b,s⟩:=hcl (C,st) (fB e);exact⟨Ca,f,fd,a,c,M,W.mg_of X G a,F,.all b,s⟩
def W7(o:Option (Rs PV×List aj)):Prop:=∃h,o=some (.ok (.bl true),h)
def Qt{K:W.Frag}{P:Pg}{k:Nat}{H:Hp}{a:Addr}{ns:List Int}(hr:W7 (run P k "law" [yd ns] []))(hS:iR K H a (ns.map V.int)):tJ K 1 (run P k "law") [.ref a] H (λv _=>v=.bl true) λ_ _ _=>False :=
 let ⟨h,e⟩:=hr
 ⟨H,⟨H,[]⟩,[],[yd ns],_,h,⟨cw.refl H,cw.refl H,Gr.refl _,λ_ _ e=>.inl e,λn a e=>by simp at e,rfl,pO,λn c a e=>by simp at e⟩,λ_ _ e=>.inl e,.cons (dA.mpr ⟨a,_,rfl,hS,ye ns⟩) .nil,rfl,e,λv F' H' _ b=>br.mp b⟩
def Hv{P:Pg}{N:Nat}{x:Str}{st:Stmt}{l:W.OpenLaw}{q:Program}{loose:List Str}{XP:(Str->Option Value)->Heap->Prop}{YP:World->Heap->Prop}{d:DefRec}(rS:P.defs.lookup ("law":Str)=some st)(hx:params st=[x])
  (hn:l.most=some 63) (Y3:d.name="law") (Ss:d.params.defaults=[]) (hr:c7 (3*N) callerA) (LS:Vt P=true) (ND:(P.defs.map (·.1)++P.gE.map (·.1)).Nodup) (Ph:P.js.lookup ("law":Str)=none) (hY:∀(w:World) (h:Heap),YP w h->∃K:W.Frag,K.In h/\EE P w K/\lK K h)
  (ZD:∀ns:List Int,ns.length<=63->W7 (run P N "law" [yd ns] [])):W.WalkO q loose XP YP l.row.toRowW d [] (λf vs=>PySem.call f vs):=by
 refine Att.xn hn Ss λw s₀ s₁ mg mb fa o pm cd doc a vs ns G Y ho hd wI RM FC FD eW hg=>?_
 obtain⟨K,KX,T,TH⟩:=hY w _ Y;obtain⟨t1,t2⟩:=TH.tabs KX;have O:=ZC KX G.T.g T.hd T.hm T.hm0 ND T.hc T.hb T.ht T.hcl T.hct LS T.hlm;obtain⟨⟨f,fd,dV,e0,F,_,_,b⟩,s⟩:=T.hd ("law",st) (fB rS);have b:=b Ph;rw[Y3]at RM;have e:=RM.symm.trans (W.mg_of KX G.T.g e0);cases e;rw[hx]at b;refine Dg (CX:=ij l.prog w) KX G.T.g G.T.b G.T.builtins G.T.nolimit hg t1 t2 FC FD (aY eW (by decide)) hr (λbase kb _=>?_) (λs u=>.of_eq (b [u] rfl)) (λH hS=>Qt (ZD ns eW) hS) (by rintro _ _ _ ⟨_,_,_,_,_,_,_,_,_,_,_,h,_⟩;exact h)
 have k:=Ht (prog:=l.prog) O (λz=>(T.hbm z).at KX G.T.g kb) N "law" "law" "law" st _ fd dV (qW rS) F s
 rw[hx]at k;exact k
abbrev Ev{α:Type}(f:Gx α)(s:bY)(a:α)(s':bY):Prop:=f s=some (.ok a,s')
abbrev Ek {α : Type} (f : Gx α) (s : bY) (a : α) : Prop := Ev f s a s
section
variable {α β:Type} {s s1 s2 s3:bY}
def eB(h:Ev f s a s1)(h2:k a s1=r):bnd f k s=r:=by
 show(f s).bind (OF k)=r;rw[h];exact h2
variable {fa fb fe:Gx PV} {ts:Gx (List PV)} {p q x y z:PV} {ps as:List PV}
def b2(ha:Ev fa s x s1)(hb:Ev fb s1 y s2)(h:g s2.h x y=some z):Ev (op2 g fa fb) s z s2:=eB ha (eB hb (by show(g s2.h x y).map _=_;rw[h];rfl))
variable {f g:Gx dB} {r:Option (Rs dB×bY)}
def ZE(e:f ⟨gj n as,h⟩=some (.ok (.rt p),⟨ρ',h'⟩)):gT f n as h=some (.ok p,h'):=by
 unfold gT;rw[e];rfl
def runN(e:f ⟨gj n as,h⟩=some (.ok .nx,⟨ρ',h'⟩)):gT f n as h=some (.ok .aL,h'):=by
 unfold gT;rw[e];rfl
variable {t:Tg} {body:Gx dB}
def fC(ht:t p s=some s1)(hb:Ev body s1 .nx s2)(h:fS t body ps s2=r):fS t body (p::ps) s=r:=eB (show Ev (stp (t p)) s .nx s1 by show(t p s).map _=_;rw[ht];rfl) (eB hb h)
def e1(ht:t p ⟨ρ,h⟩=some ⟨ME,h1⟩)(he:Ev fe ⟨ME,h1⟩ q ⟨Qu,h2⟩):ox t fe ρ p h=some (some q,h2):=by
 unfold ox;rw[ht,jj,he];rfl
def e2T(ht:t p ⟨ρ,h⟩=some ⟨ME,h1⟩)(hw:Ev ft ⟨ME,h1⟩ true ⟨Qu,h2⟩)(he:Ev fe ⟨Qu,h2⟩ q ⟨ρ3,h3⟩):xF t ft fe ρ p h=some (some q,h3):=by
 unfold xF;rw[ht,jj,hw,jj];show(if true=true then(fe ⟨Qu,h2⟩).bind _ else _)=_
 rw[if_pos rfl,he];rfl
def e2F(ht:t p ⟨ρ,h⟩=some ⟨ME,h1⟩)(hw:Ev ft ⟨ME,h1⟩ false ⟨Qu,h2⟩):xF t ft fe ρ p h=some (none,h2):=by
 unfold xF;rw[ht,jj,hw];rfl
end
end L2.U
namespace L2.U
open PySem L2
def Hw(hp:noRef p=true):gM h p=some p:=by
 unfold gM;split
 ·rfl
 ·unfold lI;rw[if_pos hp]
end L2.U
noncomputable section
namespace bH
open PySem L2 L2.U
abbrev Vu:Stmt:=top 112
noncomputable def eL:List Str:=["Box","Grip","Boxes","Frame","Run"]
noncomputable def eM:List Str:=["number","pile","value","boxes","tag","entries","boxes_made","tags_made","at","has","row","program","world","numbers","listed","frames","said","count"]
def DT(c:CT):CT:=RX aM c
def ZF(x:Str)(st:Stmt)(mk:CT)(cls:List (Str×Nat))(c:CT):Gm:={Vn aM x st cls mk (Vo aM x c) none c with clss:=eL,flds:=eM}
def rdT(x:Str)(st:Stmt)(c:CT):Gx dB:=iX AK (ZF x st (DT c) (K8 aM) c) (b8 st)
abbrev kI (n : Int) : Gx PV := cA (.int n)
abbrev kS (s : Str) : Gx PV := cA (.str s)
abbrev Q0 := Ae 2 (qD (dh 4) (qD (dh 5) Dj))
abbrev Q1 := Kz "frames" (rd 0)
abbrev Q2 := iV (rd 2) (iV (rd 4) (iV (rd 1) (cA [])))
abbrev Q3 := ox (dh 1) (Di (cA [])) [none,none]
def K9:List (Str×Nat):=aM.defs.map λd=>(d.1,(params d.2).length)
abbrev Rn(x:Str)(F:CT->Gx dB)(n:Nat):Prop:=∀k,run aM (k+1) x=gT (F (run aM k)) n
open Lean Meta in
dsimproc_decl ZG (Str.mk _):=λe=>do
 let .app _ (.app _ l):=e | return .continue
 let some l <-getListLit? l | return .continue
 return .done (mkApp (mkConst ``Str.ofString) (toExpr (String.ofList (l.toList.map λx=>Char.ofNat (x.nat?.getD 0)))))
open Lean in
dsimproc_decl ZH (Int.ofNat _):=λe=>do
 let .app _ n:=e | return .continue
 let some n:=n.nat? | return .continue
 return .done (toExpr (n:Int))
noncomputable def lbP(s:List Stmt):List Nat->List Stmt
 | []=>s
 | i::r=>lbP (match s[i]? with | some (.For _ _ b _ _) | some (.If _ b _ _) | some (.While _ b _ _) | some (.Try b _ _ _ _)=>b | _=>[]) r
noncomputable abbrev gq(a:Gx dB){f:Gx dB}(_:a=f:=by conv=>(lhs;reduce;simp only[ZG,ZH])):Gx dB:=f
def ez(x:Str)(st:Stmt)(n k:Nat){f:CT->Gx dB}(h:∀k,run aM (k+1) x=gT (rdT x st (run aM k)) n:=by intro _;kernel_rfl)(e:∀c,rdT x st c=f c:=by intro c;conv=>(lhs;reduce;simp only[ZG,ZH])):run aM (k+1) x=gT (f (run aM k)) n:=by rw[h,e]
def qX(x:Str)(st:Stmt)(p:List Nat)(c:CT):Gx dB:=iX AK (ZF x st (DT c) (K8 aM) c) (lbP (b8 st) p)
def Vv(x:Str)(st:Stmt)(c:CT):Gx dB:=iX AK (ZF x st noFn [] c) (b8 st)
def W8(x:Str)(st:Stmt)(n:Nat)(c:CT){f:CT->Gx dB}(h:∀c,DT c x=gT (Vv x st c) n:=by intro _;kernel_rfl)(e:∀c,Vv x st c=f c:=by intro c;conv=>(lhs;reduce;simp only[ZG,ZH])):DT c x=gT (f c) n:=by rw[h,e]
section
seal Kg qC KA op2 aZ rd bnd iV cA mC jD Ap ox xF dh Bw IF ow oq toB J3 FK OJ l4 Di Ku J7 FU cm JT chain leO TX jw AF J9 cutE FQ F0 lg gh Ae qD Dj vk Kx O5 k9 Py fu dN fw BV DC WJ RS BK OG WN RQ J8 RX Kz Pk xH OU WK cB TV FV gI OW OH gT Ke PJ O6 KI P4 PR Yx Pp jG DT eL eM yb UZ K1 G0 qT qS DK vK qR DJ nH ee
def Qv(c:CT):=W8 "Box" Mf 4 c
def La(c:CT):=W8 "Grip" E4 3 c
def Hx(c:CT):=W8 "Frame" Bj 3 c
def Qw(c:CT):=W8 "Run" Mg 3 c
noncomputable def mD (k:Nat):=ez "Boxes.new_tag" iS 1 k
noncomputable def mE (k:Nat):=ez "Boxes.new_box" iT 5 k
noncomputable def oE (k:Nat):=ez "Boxes.owned" kh 4 k
noncomputable def sE (k:Nat):=ez "Boxes.let" nO 3 k
noncomputable def iZ (k:Nat):=ez "Boxes.touch" ki 3 k
noncomputable def aI (c:CT):=gq (qX "Boxes.touch_boxes" dW [2] c)
noncomputable def fz (k:Nat):=ez "Boxes.touch_boxes" dW 8 k
noncomputable def oF (k:Nat):=ez "Boxes.store" kj 6 k
noncomputable def dP (c:CT):=gq (qX "Boxes.let_go" eV [0,0] c)
noncomputable def dQ (c:CT):=gq (qX "Boxes.let_go" eV [0] c)
noncomputable def nI (k:Nat):=ez "Boxes.let_go" eV 5 k
noncomputable def eN (k:Nat):=ez "leaves" (top 7) 3 k
noncomputable def yg (k:Nat):=ez "kind_of" (top 14) 4 k
noncomputable def jJ (c:CT):Gx dB :=
 (qC (l4 (BV K9 c (DC (λk=>(List.lookup k gH).map .fn) (op2 aZ (rd 5) (kI 0))) (iV (rd 2) (iV (rd 5) (cA [])))) (dh 6))
  (Bw (IF "list" ow (rd 3) (iV (jD false [none,none,some 4] (Ap (WJ (rd 6) (OJ .lst (iV (cA (.au [(.str "rest"),(.str ""),(.bl false),(.int 0),(.int 0),(.str "")])) (cA []))))) (ox (dh 1) (op2 gh (OJ .au (iV (rd 2) (cA []))) (rd 1)))) (cA [])))))
noncomputable def Hy (c:CT):Gx dB :=
 (qC (l4 (op2 aZ (rd 0) (rd 1)) (dh 2))
  (qC (l4 (Di (cA [])) (dh 3))
  (qC (Ku (RS (BK (op2 aZ (rd 2) (kI 4)))) Q0 (jJ c))
  (FK (rd 3)))))
theorem Hz:Rn "acts" Hy 7:=λ_=>by kernel_rfl
noncomputable def t9 (k:Nat):=ez "touch" (top 32) 6 k
noncomputable def oG (k:Nat):=ez "touch_whole" (top 33) 4 k
noncomputable def yh (k:Nat):=ez "at_acts" (top 34) 2 k
noncomputable def nJ (k:Nat):=ez "operand_acts" (top 35) 2 k
noncomputable def oH (k:Nat):=ez "target_acts" (top 36) 2 k
noncomputable def mF (k:Nat):=ez "put_acts" (top 37) 2 k
noncomputable def vS (k:Nat):=ez "set_acts" (top 38) 2 k
noncomputable def sF (k:Nat):=ez "copy_acts" (top 39) 2 k
noncomputable def sG (k:Nat):=ez "move_acts" (top 40) 2 k
noncomputable def yi (k:Nat):=ez "if_acts" (top 46) 2 k
noncomputable def yj (k:Nat):=ez "go_acts" (top 47) 2 k
noncomputable def vT (k:Nat):=ez "say_acts" (top 48) 2 k
noncomputable def sH (k:Nat):=ez "give_acts" (top 49) 2 k
noncomputable def yk (k:Nat):=ez "read_by" (top 52) 3 k
noncomputable def qY (k:Nat):=ez "written_by" (top 53) 3 k
noncomputable def vU (k:Nat):=ez "place_of" (top 56) 4 k
noncomputable def qZ (k:Nat):=ez "check_held" (top 63) 2 k
noncomputable def vV (k:Nat):=ez "boxes_of" (top 64) 2 k
noncomputable def oI (k:Nat):=ez "pile_behind" (top 65) 4 k
noncomputable def eA (c:CT):=gq (qX "acts_by_row" (top 74) [1] c)
noncomputable def oJ (k:Nat):=ez "acts_by_row" (top 74) 4 k
noncomputable def AL (k:Nat):=ez "row_of" (top 75) 2 k
noncomputable def yl (k:Nat):=ez "acts_of" (top 76) 2 k
noncomputable def lq (k:Nat):=ez "run_from_first" (top 77) 5 k
noncomputable def DU (k:Nat):=ez "begin" (top 78) 6 k
noncomputable def fN (c:CT):=gq (qX "run_on" (top 79) [0] c)
noncomputable def AM (k:Nat):=ez "run_on" (top 79) 2 k
noncomputable def lr (k:Nat):=ez "do_row" (top 80) 4 k
noncomputable def q9 (k:Nat):=ez "row_behind" (top 81) 4 k
noncomputable def cO (c:CT):=gq (qX "do_acts" (top 82) [1] c)
noncomputable def jK (k:Nat):=ez "do_acts" (top 82) 6 k
noncomputable def lu (k:Nat):=ez "do_act" (top 83) 6 k
noncomputable def fX (k:Nat):=ez "written" (top 84) 7 k
noncomputable def vW (k:Nat):=ez "strip_of" (top 85) 2 k
noncomputable def rf (k:Nat):=ez "number_put" (top 86) 3 k
noncomputable def az (c:CT):=gq (qX "numbers_found" (top 87) [2] c)
noncomputable def mG (k:Nat):=ez "numbers_found" (top 87) 7 k
noncomputable def ym (k:Nat):=ez "do_give" (top 89) 4 k
noncomputable def rh (k:Nat):=ez "given_back" (top 90) 5 k
noncomputable def vX (k:Nat):=ez "owned_by" (top 91) 3 k
noncomputable def Lb (k:Nat):=ez "run" (top 94) 7 k
noncomputable def vY (k:Nat):=ez "_law_cell_at" (top 96) 2 k
noncomputable def AN (k:Nat):=ez "_law_whole" (top 97) 1 k
noncomputable def rj (c:CT):=gq (qX "_law_names" (top 98) [4,1] c)
noncomputable def lx (c:CT):=gq (qX "_law_names" (top 98) [4] c)
noncomputable def AO (k:Nat):=ez "_law_names" (top 98) 9 k
noncomputable def DV (k:Nat):=ez "_law_spot" (top 99) 6 k
noncomputable def vZ (k:Nat):=ez "_law_operand" (top 100) 4 k
noncomputable def yn (k:Nat):=ez "_law_copied" (top 101) 6 k
noncomputable def HA (k:Nat):=ez "_law_row" (top 102) 7 k
noncomputable def iK (c:CT):=gq (qX "_law_program" (top 103) [13] c)
noncomputable def v5 (k:Nat):=ez "_law_program" (top 103) 11 k
noncomputable def AQ (k:Nat):=ez "_law_begin" (top 104) 5 k
noncomputable def AR (k:Nat):=ez "_law_place" (top 105) 3 k
noncomputable def nU (k:Nat):=ez "_law_number" (top 106) 3 k
noncomputable def yo (k:Nat):=ez "_law_reckon" (top 107) 3 k
noncomputable def DW (k:Nat):=ez "_law_done" (top 108) 5 k
noncomputable def DX (k:Nat):=ez "_law_next" (top 109) 3 k
noncomputable def ir (c:CT):=gq (qX "_law_due" (top 110) [3] c)
noncomputable def HB (k:Nat):=ez "_law_due" (top 110) 8 k
noncomputable def DY (k:Nat):=ez "_law_told" (top 111) 2 k
noncomputable def Ld (k:Nat):=ez "law" (top 112) 7 k
end
end bH
namespace L2.U
section
open PySem
theorem aby{α:Type}{o:Option α}{v:α}{st:bY}(h:o=some v):jT o st=some (.ok v,st):=by show o.map _=_;rw[h];rfl
theorem adU{α:Type}{g:List aj->Option α}{v:α}{st:bY}(h:g st.h=some v):hp g st=some (.ok v,st):=by show(g st.h).map _=_;rw[h];rfl
theorem Vw{g:bY->Option bY}{st st':bY}(h:g st=some st'):stp g st=some (.ok .nx,st'):=by show(g st).map _=_;rw[h];rfl
theorem abz{α β:Type}{f:Gx α}{k:α->Gx β}{st s1:bY}{a:α}{r:Option (Rs β×bY)}(h:f st=some (.ok a,s1))(h2:k a s1=r):bnd f k st=r:=eB h h2
theorem adV{α:Type}{b:Bool}{f g:Gx α}{st:bY}{r:Option (Rs α×bY)}(h:b=true)(h2:f st=r):(if b=true then f else g) st=r:=by rw[if_pos h];exact h2
theorem adW{α:Type}{b:Bool}{f g:Gx α}{st:bY}{r:Option (Rs α×bY)}(h:b=false)(h2:g st=r):(if b=true then f else g) st=r:=by rw[if_neg (by rw[h];exact cf)];exact h2
theorem ZI{α:Type}{gc:Gx Bool}{f g:Gx α}{st s1:bY}{r:Option (Rs α×bY)}(h:gc st=some (.ok true,s1))(h2:f s1=r):oq gc f g st=r:=eB h h2
theorem ZJ{α:Type}{gc:Gx Bool}{f g:Gx α}{st s1:bY}{r:Option (Rs α×bY)}(h:gc st=some (.ok false,s1))(h2:g s1=r):oq gc f g st=r:=eB h h2
theorem v7{f:Gx dB}{n:Nat}{as:List PV}{h:List aj}{p:PV}{st':bY}(e:f ⟨gj n as,h⟩=some (.ok (.rt p),st')):gT f n as h=some (.ok p,st'.h):=ZE e
theorem ZK{f:Gx dB}{n:Nat}{as:List PV}{h:List aj}{st':bY}(e:f ⟨gj n as,h⟩=some (.ok .nx,st')):gT f n as h=some (.ok .aL,st'.h):=runN e
theorem Cd{n:Nat}{g:jW}{as:List PV}{st:bY}{p q:PV}{h':List aj}(hn:(st.h.isEmpty || ao as)=true)(hl:as.length=n)(hc:g as []=some (.ok p,h'))(hf:gM h' p=some q):jE n g as st=some (.ok q,st):=by
 unfold jE;rw[if_pos ⟨hl,hn⟩,hc];show(gM h' p).map _=_;rw[hf];rfl
theorem ZL{n:Nat}{g:jW}{as:List PV}{st:bY}{p q:PV}{h':List aj}(hn:(st.h.isEmpty || ao as)=true)(hl:as.length=n)(hc:g as []=some (.ok p,h'))(hf:gM h' p=some q):mC 0 n g as st=some (.ok q,st):=by
 unfold mC;rw[hn,if_pos (show((0==0)&&true)=true from rfl)]
 exact Cd hn hl hc hf
theorem Xa{m n:Nat}{g:jW}{as:List PV}{st:bY}{p:PV}{h':List aj}(hn:((m==0)&&(st.h.isEmpty || ao as))=false)(hl:as.length=n)(hc:g as st.h=some (.ok p,h')):mC m n g as st=some (.ok p,⟨st.ρ,h'⟩):=by
 unfold mC;rw[hn,if_neg cf];unfold ig;rw[if_pos hl,hc];rfl
theorem DZ{α:Type}{f:α->PV}{q:α->PV}{h:List aj}{bd:PV->List aj->Option (Option PV×List aj)}:∀{L:List α},(∀x∈L,bd (f x) h=some (some (q x),h))->fy bd (L.map f) h=some (L.map q,h)
 | [],_=>rfl
 | x::L,H=>by
  show(bd (f x) h).bind _=_;rw[H x dw];show(fy bd (L.map f) h).map _=_;rw[DZ λy hy=>H y (cG _ hy)]
  rfl
theorem ZM{link:List (Option Nat)}{fi:Gx BL}{bd:Bd}{st s1:bY}{ps qs:List PV}{h':List aj}(hi:fi st=some (.ok (.sq ps),s1))(hl:ps.length<=4000000)(hc:fy (bd (dt link s1.ρ)) ps s1.h=some (qs,h')):jD false link fi bd st=some (.ok (.lst qs),⟨s1.ρ,h'⟩):=eB hi (by
 show(if ps.length<=ic then fy _ ps s1.h else none).bind _=_
 rw[if_pos (show ps.length<=ic from hl),hc]
 rfl)
theorem Qx{t:Tg}{fe:Gx PV}{ρ:List (Option PV)}{p q:PV}{h:List aj}{st1:bY}{Qu:List (Option PV)}{h2:List aj}(ht:t p ⟨ρ,h⟩=some st1)(he:fe st1=some (.ok q,⟨Qu,h2⟩)):ox t fe ρ p h=some (some q,h2):=by
 unfold ox;rw[ht,jj,he];rfl
theorem RY{bd:PV->List aj->Option (Option PV×List aj)}{h:List aj}:fy bd [] h=some ([],h):=rfl
theorem rk{bd:PV->List aj->Option (Option PV×List aj)}{p:PV}{ps qs:List PV}{o:Option PV}{h h1 h2:List aj}(e1:bd p h=some (o,h1))(e2:fy bd ps h1=some (qs,h2)):fy bd (p::ps) h=some (o.toList++qs,h2):=by
 show(bd p h).bind _=_;rw[e1];show(fy bd ps h1).map _=_;rw[e2];rfl
theorem Xb{n:Nat}{g:jW}{as:List PV}{st:bY}{p:PV}{h':List aj}(hl:as.length=n)(hc:g as st.h=some (.ok p,h')):ig n g as st=some (.ok p,⟨st.ρ,h'⟩):=by
 show(if as.length=n then(g as st.h).map λr=>(Uw r.1,(⟨st.ρ,r.2⟩:bY))else none)=_
 rw[if_pos hl,hc];rfl
theorem ZN{C:Str}{n:Nat}{g:jW}{as:List PV}{st:bY}{h':List aj}(hl:as.length+1=n)(hg:g (.ref st.h.length::as) (st.h++[⟨.ins C [],[]⟩])=some (.ok .aL,h')):K1 C n g as st=some (.ok (.ref st.h.length),⟨st.ρ,h'⟩):=by
 unfold K1;rw[if_pos hl,hg];rfl
theorem ZO{fa:Gx PV}{st s1:bY}{ps:List PV}{c:aj}(h:fa st=some (.ok (.lst ps),s1))(hc:GJ ps=some c):KI fa st=some (.ok (.ref s1.h.length),⟨s1.ρ,s1.h++[c]⟩):=eB h (by
 show(GJ ps).bind (λc=>jy c s1)=_
 rw[hc];rfl)
noncomputable def gx{α:Type}(f:Gx α)(st:bY):Option (Rs α×bY):=f st
theorem abA{α:Type}{f:Gx α}{st:bY}{r:Option (Rs α×bY)}(h:f st=r):gx f st=r:=h
theorem bA{α:Type}{f:Gx α}{st:bY}{r:Option (Rs α×bY)}(h:gx f st=r):f st=r:=h
end
end L2.U
set_option maxHeartbeats 4000000
namespace bH
open PySem L2 L2.U
theorem ak{h:List aj}{n:Nat}{k:Kd}{ps:List PV}(e:h[n]?=some ⟨k,ps⟩)(hl:live ⟨k,ps⟩=true):cS h (.ref n)=some (k,ps):=by
 show((h[n]?).bind λc=>if live c=true then some (c.k,c.ps)else none)=_
 rw[e,jj,if_pos hl]
theorem dC{h:List aj}{n:Nat}{k:Kd}{ps:List PV}(e:h[n]?=some ⟨k,ps⟩)(hl:live ⟨k,ps⟩=true):i9 h (.ref n)=some (n,⟨k,ps⟩):=by
 show((h[n]?).bind λc=>if live c=true then some (n,c)else none)=_
 rw[e,jj,if_pos hl]
theorem HC{h:List aj}{n:Nat}{c:aj}(e:h[n]?=some c):h.set n c=h:=by
 apply List.ext_getElem?;intro i;by_cases hi:n=i
 ·subst hi;rw[e];simp[(dS.mp e).1]
 ·rw[bW hi]
theorem cz{h:List aj}{n:Nat}{c d:aj}(e:h[n]?=some c):(h.set n d)[n]?=some d:=by
 simp[(dS.mp e).1]
theorem dZ{h:List aj}{n:Nat}{c:aj}(e:h[n]?=some c):n<h.length:=(dS.mp e).1
theorem bK{h g:List aj}{n:Nat}{c:aj}(e:h[n]?=some c):(h++g)[n]?=some c:=by
 rw[gz (dZ e),e]
theorem dv{h:List aj}{c:aj}:(h++[c])[h.length]?=some c:=by simp
theorem Ce{g:List aj}{c d:aj}:(g++[c]).set g.length d=g++[d]:=by simp
theorem eu{h:List aj}{n:Nat}{C f:Str}{ns:List Str}{ps:List PV}{v:PV}{ρ:List (Option PV)}(e:h[n]?=some ⟨.ins C ns,ps⟩)(hc:(eL.contains C&&eM.contains f&&decide (ns.length<900))=true) :
  ee eL eM f (.ref n) v ⟨ρ,h⟩=some ⟨ρ,h.set n ⟨.ins C (ja f v ns ps).1,(ja f v ns ps).2⟩⟩:=by
 unfold ee;rw[dC e rfl];exact if_pos hc
theorem fY{g:List aj}{C f:Str}{ns:List Str}{ps:List PV}{v:PV}{ρ:List (Option PV)}(hc:(eL.contains C&&eM.contains f&&decide (ns.length<900))=true) :
  ee eL eM f (.ref g.length) v ⟨ρ,g++[⟨.ins C ns,ps⟩]⟩=some ⟨ρ,g++[⟨.ins C (ja f v ns ps).1,(ja f v ns ps).2⟩]⟩:=by
 rw[eu dv hc,Ce]
def ef(t:Int):PV:=.lst [.au [.int t,.str "own"]]
abbrev jd(m t:Int)(v:PV):aj:=⟨.ins "Box" ["number","pile","value"],[.int m,ef t,v]⟩
abbrev IH(P:List PV)(t:Int):aj:=⟨.ins "Grip" ["boxes","tag"],[.lst P,.int t]⟩
noncomputable abbrev je(nb nt:Int):aj:=⟨.ins "Boxes" ["entries","boxes_made","tags_made"],[.ref 1,.int nb,.int nt]⟩
theorem Cf{h:List aj}{n:Nat}{m t:Int}{v w:PV}{ρ:List (Option PV)}(e:h[n]?=some (jd m t v)):ee eL eM "value" (.ref n) w ⟨ρ,h⟩=some ⟨ρ,h.set n (jd m t w)⟩:=by
 rw[eu e (by kernel_rfl)]
 rfl
theorem yp{h:List aj}{n:Nat}{m t:Int}{v:PV}{ρ:List (Option PV)}(e:h[n]?=some (jd m t v)):ee eL eM "pile" (.ref n) (ef t) ⟨ρ,h⟩=some ⟨ρ,h⟩:=by
 rw[eu e (by kernel_rfl)]
 show some (⟨ρ,h.set n (jd m t v)⟩:bY)=_;rw[HC e]
structure Ch (h h':List aj) (A:List Nat):Prop where
 le:h.length<=h'.length
 eq:∀n,n<h.length->n∉A->h'[n]?=h[n]?
theorem Ch.refl(h:List aj)(A:List Nat):Ch h h A:=⟨aF _,λ_ _ _=>rfl⟩
theorem Ch.app(h g:List aj)(A:List Nat):Ch h (h++g) A:=⟨by simp,λn hn _=>gz hn⟩
theorem Ch.set{h:List aj}{n:Nat}(c:aj):Ch h (h.set n c) [n]:=⟨by simp,λm _ hm=>bW (λz=>hm (by simp[z]))⟩
theorem Ch.tr{h h' IE:List aj}{A B:List Nat}(a:Ch h h' A)(b:Ch h' IE B)(hB:∀n∈B,n<h.length->n∈A):Ch h IE A :=
 ⟨aY a.le b.le,λn hn hA=>by rw[b.eq n (cj hn a.le) λz=>hA (hB n z hn),a.eq n hn hA]⟩
theorem Ch.mono{h h':List aj}{A B:List Nat}(a:Ch h h' A)(hB:∀n∈A,n∈B):Ch h h' B:=⟨a.le,λn hn hA=>a.eq n hn λz=>hA (hB n z)⟩
theorem Ch.get{h h':List aj}{A:List Nat}(a:Ch h h' A){n:Nat}{c:aj}(e:h[n]?=some c)(hA:n∉A):h'[n]?=some c:=by
 rw[a.eq n (dZ e) hA,e]
theorem fj{h:List aj}{n:Nat}{c:aj}(e:h[n]?=some c):h.isEmpty=false:=by
 cases h with
 | nil=>simp at e
 | cons _ _=>rfl
theorem jL(n:Nat)(L:List PV):ao (.ref n::L)=false:=rfl
theorem eZ{h:List aj}{n:Nat}{L:List PV}{v:PV}{ρ:List (Option PV)}(e:h[n]?=some ⟨.lst,L⟩)(hl:L.length<4000000):fu (dN fw) (.ref n) [v] ⟨ρ,h⟩=some (.ok .aL,⟨ρ,h.set n ⟨.lst,L++[v]⟩⟩):=by
 show((i9 h (.ref n)).bind λc=>(dN fw c.2 [v]).map λr=>_)=_
 rw[dC e rfl];have:fw L [v]=some (L++[v]):=if_pos (show L.length<ic from hl)
 show(((fw L [v]).map λqs=>((⟨.lst,qs⟩:aj),PV.aL)).map λr=>_)=_
 rw[this];rfl
def Wd(h:List aj)(k:Nat):Prop:=∃nb nt es,h[0]?=some (je nb nt)/\h[1]?=some ⟨.lst,es⟩/\es.length+k<=3000000
theorem Wd.ch{h h':List aj}{k:Nat}{A:List Nat}(w:Wd h k)(c:Ch h h' A)(hA:0∉A/\1∉A):Wd h' k:=by
 obtain⟨nb,nt,es,h0,h1,hk⟩:=w;exact⟨nb,nt,es,c.get h0 hA.1,c.get h1 hA.2,hk⟩
theorem Wd.mono{h:List aj}{k k':Nat}(w:Wd h k)(hk:k'<=k):Wd h k':=by
 obtain⟨nb,nt,es,h0,h1,h2⟩:=w;exact⟨nb,nt,es,h0,h1,by lia⟩
theorem Wd.add{h:List aj}{k:Nat}{v:PV}(w:Wd h (k+1)):∃es,h[1]?=some ⟨.lst,es⟩/\es.length<4000000/\Wd (h.set 1 ⟨.lst,es++[v]⟩) k:=by
 obtain⟨nb,nt,es,h0,h1,h2⟩:=w;exact⟨es,h1,by lia,nb,nt,es++[v],by rw[bW (by decide),h0],cz h1,by simp;lia⟩
theorem D6{h:List aj}{a b:Int}:lg h (.int a) (.int b)=some (.bl (a==b)):=rfl
end bH
namespace L2.U
section
set_option compiler.extract_closed false
open Lean Meta
abbrev zq9wh (e : Lean.Expr) : MetaM Lean.Expr := withDefault (whnf e)
abbrev zq9sm (e : Lean.Expr) : SimpM Simp.Result := withReducible (Simp.simp e)

def zq9er {α : Type} : SimpM α := throwError "e"

def zq9isT9 (e : Lean.Expr) : Bool := e.isConstOf ``Bool.true

def zq9isF9 (e : Lean.Expr) : Bool := e.isConstOf ``Bool.false

def zq9mkn (n : Lean.Name) (a : Array Lean.Expr) : Lean.Expr := mkAppN (mkConst n) a

def zq9mkS (a b : Lean.Expr) : Lean.Expr := mkApp2 (mkConst ``bY.mk) a b

def zq9one (c : Lean.Expr) : Lean.Expr := mkApp3 (mkConst ``List.cons [0]) (mkConst ``aj) c (mkApp (mkConst ``List.nil [0]) (mkConst ``aj))

def zq9stH (s : Lean.Expr) : MetaM (Lean.Expr × Lean.Expr) := do
 let t ← zq9wh s
 if t.isAppOfArity ``bY.mk 2 then return (t.appFn!.appArg!, t.appArg!) else return (mkApp (mkConst ``bY.ρ) s, mkApp (mkConst ``bY.h) s)

def zq9eqR (q : Lean.Expr) : SimpM Lean.Expr := do
 match (← inferType q).eq? with
 | some (_, _, r) => return r
 | none => zq9er

def zq9prf (r : Simp.Result) (e x : Lean.Expr) : MetaM Lean.Expr := do mkExpectedTypeHint (← r.getProof) (← mkEq e x)
def zq9rflT (e d : Lean.Expr) : MetaM Lean.Expr := do mkExpectedTypeHint (← mkEqRefl d) (← mkEq e d)

def zq9nList (w : Bool) : Nat → Lean.Expr → MetaM Lean.Expr
 | 0, e => return e
 | n + 1, e => do
  let d ← zq9wh e
  if d.isAppOfArity ``List.cons 3 then
   let a := d.appFn!.appArg!.headBeta
   let a ← if w then (do let b ← zq9wh a; return if b.isAppOf ``Option.some || b.isAppOf ``Option.none then b else a) else pure a
   return mkApp2 d.appFn!.appFn! a (← zq9nList w n d.appArg!)
  else if d.isAppOf ``List.nil then return d
  else return e
def zq9natOf : Nat → Lean.Expr → MetaM (Option Nat)
 | 0, _ => return none
 | n + 1, e => do
  let d ← zq9wh e
  match d with
  | .lit (.natVal k) => return some k
  | _ => if d.isAppOfArity ``Nat.succ 1 then return (← zq9natOf n d.appArg!).map (· + 1) else if d.isConstOf ``Nat.zero then return some 0 else return none
def zq9isLit (e : Lean.Expr) : Nat → Bool
 | 0 => false
 | n + 1 => e.isAppOf ``List.nil || (e.isAppOfArity ``List.cons 3 && zq9isLit e.appArg! n)
def zq9stripH : Nat → Lean.Expr → MetaM Lean.Expr
 | 0, e => return e
 | n + 1, e => do
  if e.isAppOfArity ``bY.h 1 then
   let s ← whnfCore e.appArg!
   let s ← if s.isAppOfArity ``bY.mk 2 then pure s else zq9wh s
   if s.isAppOfArity ``bY.mk 2 then zq9stripH n s.appArg! else return e
  else if e.isAppOfArity ``HAppend.hAppend 6 then return mkApp2 e.appFn!.appFn! (← zq9stripH n e.appFn!.appArg!) e.appArg!
  else if e.isAppOfArity ``List.set 4 then
   let as := e.getAppArgs
   return mkAppN e.getAppFn #[as[0]!, ← zq9stripH n as[1]!, as[2]!, as[3]!]
  else return e
def zq9nVal (v : Lean.Expr) : MetaM Lean.Expr := do
 let v ← withReducible (whnf v.headBeta)
 if v.isAppOfArity ``PV.ref 1 then
  if v.appArg!.isLit then return v
  match ← zq9natOf 60 v.appArg! with
  | some k => return mkApp (mkConst ``PV.ref) (mkNatLit k)
  | none => if v.appArg!.isAppOfArity ``List.length 2 then return mkApp v.appFn! (mkApp v.appArg!.appFn! (← zq9stripH 60 v.appArg!.appArg!)) else return v
 if v.isAppOfArity ``PV.nd 2 && !(v.appArg!.isAppOf ``List.map || zq9isLit v.appArg! 200) then
  let ps ← zq9nList false 200 v.appArg!
  return if zq9isLit ps 200 then mkApp v.appFn! ps else v
 if (← isConstructorApp? v).isSome || v.isFVar then return v
 if v.isProj || (← isMatcherApp v) || v.getAppFn.isProj then zq9wh v else match v.getAppFn with
 | .const c _ => if (← isProjectionFn c) || c == ``Option.get || c == ``ite || c == ``Option.getD then zq9wh v else return v
 | _ => return v
def zq9nCell (c : Lean.Expr) : MetaM Lean.Expr := do
 let d ← zq9wh c
 unless d.isAppOfArity ``aj.mk 2 do return c
 let k ← zq9wh d.appFn!.appArg!
 let k ← if k.isAppOfArity ``Kd.ins 2 then pure (mkApp k.appFn! (← zq9nList false 200 k.appArg!)) else pure k
 let ps ← zq9nList false 200 d.appArg!
 return mkApp2 d.appFn!.appFn! k ps
def zq9nHeap : Nat → Lean.Expr → MetaM Lean.Expr
 | 0, e => return e
 | n + 1, e => do
  let d ← zq9wh e
  if d.isAppOfArity ``List.cons 3 then return mkApp2 d.appFn!.appFn! (← zq9nCell d.appFn!.appArg!.headBeta) (← zq9nHeap n d.appArg!)
  else if d.isAppOf ``List.nil then return d
  else zq9stripH 60 e
def zq9nSta (e : Lean.Expr) : MetaM Lean.Expr := do
 let d ← zq9wh e
 if d.isAppOfArity ``bY.mk 2 then return mkApp2 d.appFn!.appFn! (← zq9nList true 200 d.appFn!.appArg!) (← zq9nHeap 200 d.appArg!) else return e
def zq9someArg? (e : Lean.Expr) : Option Lean.Expr := if e.isAppOfArity ``Option.some 2 then some e.appArg! else none
def zq9evB (b : Lean.Expr) : SimpM (Lean.Expr × Lean.Expr) := do
 let b := b.headBeta
 let d ← zq9wh b
 if zq9isT9 d || zq9isF9 d then return (d, ← mkExpectedTypeHint (← mkEqRefl d) (← mkEq b d))
 let r ← zq9sm b
 let r' ← if zq9isT9 r.expr || zq9isF9 r.expr then pure r.expr else do
  let d ← zq9wh r.expr
  pure (if zq9isT9 d || zq9isF9 d then d else r.expr)
 return (r', ← mkExpectedTypeHint (← r.getProof) (← mkEq b r'))
def zq9atRoot (o : Lean.Expr) : SimpM (Option Simp.Result) := withReducible do
 match ← Simp.rewritePost false o with
 | .visit r => return some r
 | .done r => return some r
 | .continue (some r) => return some r
 | .continue none => return none

def zq9evOx (o v : Lean.Expr) (r : Simp.Result) : SimpM (Option (Lean.Expr × Lean.Expr)) := do
 let v' ← if (← inferType v).isConstOf ``PV then zq9nVal v else pure v
 unless v'.isAppOfArity ``PV.bl 1 do return some (v', ← zq9prf r o (mkApp r.expr.appFn! v'))
 let (b', p) ← zq9evB v'.appArg!
 let f := mkLambda `x .default (mkConst ``Bool) (mkApp r.expr.appFn! (mkApp (mkConst ``PV.bl) (Lean.Expr.bvar 0)))
 let d := mkApp (mkConst ``PV.bl) b'
 return some (d, ← mkEqTrans (← r.getProof) (← mkExpectedTypeHint (← mkCongrArg f p) (← mkEq r.expr (mkApp r.expr.appFn! d))))

def zq9evOy (o : Lean.Expr) : SimpM (Option (Lean.Expr × Lean.Expr)) := do
 let r ← zq9sm o
 let d ← if (zq9someArg? r.expr).isSome then pure r.expr else zq9wh r.expr
 match zq9someArg? d with
 | some v => return some (v, ← zq9prf r o d)
 | none => return none

def zq9evOz (o d b : Lean.Expr) (k : Bool) : SimpM (Option (Lean.Expr × Lean.Expr)) := do
 let f := fun x => if k then x else mkApp (mkConst ``PV.bl) x
 let (b', p) ← zq9evB b
 return some (f b', ← mkExpectedTypeHint (← mkCongrArg (mkLambda `x .default (mkConst ``Bool) (mkApp d.appFn! (f (Lean.Expr.bvar 0)))) p) (← mkEq o (mkApp d.appFn! (f b'))))
def zq9evO (o : Lean.Expr) : SimpM (Option (Lean.Expr × Lean.Expr)) := do
 let o := o.headBeta
 if let some r ← zq9atRoot o then
  if let some v := zq9someArg? r.expr then return ← zq9evOx o v r
 let d ← zq9wh o
 let some v := zq9someArg? d | zq9evOy o
 let ty ← inferType v
 if ty.isConstOf ``bY then
  let v ← zq9nSta v
  return some (v, ← zq9rflT o (mkApp d.appFn! v))
 let k := ty.isConstOf ``Bool
 let v := v.headBeta
 let v ← if ty.isConstOf ``PV then zq9nVal v else pure v
 unless k || v.isAppOfArity ``PV.bl 1 do return some (v, ← zq9rflT o (mkApp d.appFn! v))
 let b := if k then v else v.appArg!
 let b' ← zq9wh b
 if zq9isT9 b' || zq9isF9 b' then
  let w := if k then b' else mkApp (mkConst ``PV.bl) b'
  return some (w, ← zq9rflT o (mkApp d.appFn! w))
 let some (v', p) ← zq9evOy o | zq9evOz o d b k
 let c := if v'.isAppOfArity ``PV.bl 1 then v'.appArg! else v'
 if zq9isT9 c || zq9isF9 c || (zq9someArg? (← zq9sm o).expr).isSome then return some (v', p)
 zq9evOz o d b k
def zq9okE (α a st : Lean.Expr) : Lean.Expr :=
 let rs := mkApp (mkConst ``Rs) α
 let pr := mkApp2 (mkConst ``Prod [0, 0]) rs (mkConst ``bY)
 mkApp2 (mkConst ``Option.some [0]) pr (mkApp4 (mkConst ``Prod.mk [0, 0]) rs (mkConst ``bY) (mkApp2 (mkConst ``Rs.ok) α a) st)
def zq9okH (a h : Lean.Expr) : Lean.Expr :=
 let rs := mkApp (mkConst ``Rs) (mkConst ``PV)
 let lc := mkApp (mkConst ``List [0]) (mkConst ``aj)
 let pr := mkApp2 (mkConst ``Prod [0, 0]) rs lc
 mkApp2 (mkConst ``Option.some [0]) pr (mkApp4 (mkConst ``Prod.mk [0, 0]) rs lc (mkApp2 (mkConst ``Rs.ok) (mkConst ``PV) a) h)
def zq9okArgs? (r : Lean.Expr) : Option (Lean.Expr × Lean.Expr) := do
 let x ← zq9someArg? r
 guard (x.isAppOfArity ``Prod.mk 4)
 let y := x.appFn!.appArg!
 guard (y.isAppOfArity ``Rs.ok 2)
 return (y.appArg!, x.appArg!)
def zq9nRes (e : Lean.Expr) : MetaM (Option Lean.Expr) := do
 let d ← zq9wh e
 let some x := zq9someArg? d | return none
 let x ← zq9wh x
 unless x.isAppOfArity ``Prod.mk 4 do return none
 let y ← zq9wh (x.appFn!.appArg!)
 let st ← zq9nSta x.appArg!
 let y ← if y.isAppOfArity ``Rs.ok 2 then (do let v ← (do let v := y.appArg!.headBeta; if (← inferType v).isConstOf ``PV then zq9nVal v else zq9wh v); pure (mkApp y.appFn! v)) else pure y
 return some (mkApp d.appFn! (mkApp2 x.appFn!.appFn! y st))

def zq9okV (a s : Lean.Expr) : Lean.Expr := zq9okE (mkConst ``PV) a s

def zq9okR9 (r : Lean.Expr) : SimpM (Lean.Expr × Lean.Expr) := match zq9okArgs? r with
 | some x => return x
 | none => zq9er

def zq9evP (o : Lean.Expr) : SimpM (Lean.Expr × Lean.Expr) := do
 match ← zq9evO o with
 | some x => return x
 | none => zq9er

def zq9nRs (e : Lean.Expr) : SimpM Lean.Expr := do
 match ← zq9nRes e with
 | some x => return x
 | none => zq9er
def zq9evUnfold : List Lean.Name := [``op2, ``iV, ``OJ, ``J7, ``toB, ``vk, ``JT, ``oq, ``qC, ``onK, ``qF, ``l4, ``FK, ``Bw, ``chain, ``OG, ``WJ, ``OH, ``O5, ``FQ, ``cutE, ``O6, ``DC, ``WN, ``Kz, ``IF, ``tyG, ``Ap, ``RS, ``Pk, ``BK, ``P4, ``PR, ``Ku, ``YO, ``KA, ``BV, ``MK, ``Di, `adL, ``KI]
def zq9mkLe (a b : Lean.Expr) : MetaM (Option Lean.Expr) := do
 let p ← mkAppM ``LE.le #[a, b]
 let d ← mkAppM ``Decidable.decide #[p]
 let r ← zq9wh d
 if zq9isT9 r then return some (← mkAppM ``of_decide_eq_true #[← mkExpectedTypeHint (← mkEqRefl (mkConst ``Bool.true)) (← mkEq d (mkConst ``Bool.true))]) else return none
def zq9byS (p : Lean.Expr) : SimpM (Option Lean.Expr) := do
 let r ← zq9sm p
 if r.expr.isTrue then return some (← mkOfEqTrue (← r.getProof)) else return none
def zq9evE (go : Lean.Expr → SimpM (Lean.Expr × Lean.Expr)) (bd p h : Lean.Expr) : SimpM (Lean.Expr × Lean.Expr) := do
 let as := bd.getAppArgs
 let ρ := as.back!
 let st := mkApp2 (mkConst ``bY.mk) ρ h
 let (st1, pt) ← zq9evP (mkApp2 as[0]! p st)
 if bd.isAppOf ``ox then
  let (r1, p1) ← go (mkApp as[1]! st1)
  let (v, s2) ← zq9okR9 r1
  let q := zq9mkn ``Qx #[as[0]!, as[1]!, ρ, p, v, h, st1, s2.appFn!.appArg!, s2.appArg!, pt, p1]
  let r ← zq9eqR q
  return (r, q)
 else
  let (r1, p1) ← go (mkApp as[1]! st1)
  let (b, st2) ← zq9okR9 r1
  if zq9isF9 b then
   let q ← mkAppM ``e2F #[pt, p1]
   let r ← zq9eqR q
   return (r, q)
  else if zq9isT9 b then
   let (_, p2) ← go (mkApp as[2]! st2)
   let q ← mkAppM ``e2T #[pt, p1, p2]
   let r ← zq9eqR q
   return (r, q)
  else zq9er
def zq9evL (go : Lean.Expr → SimpM (Lean.Expr × Lean.Expr)) (bd h : Lean.Expr) : Nat → Lean.Expr → SimpM Lean.Expr
 | 0, _ => zq9er
 | m + 1, ps => do
  let d ← zq9wh ps
  if d.isAppOf ``List.nil then mkAppOptM ``RY #[some bd, some h]
  else if d.isAppOfArity ``List.cons 3 then
   let (_, p) ← zq9evE go bd d.appFn!.appArg!.headBeta h
   let p2 ← zq9evL go bd h m d.appArg!
   mkAppM ``rk #[p, p2]
  else zq9er
def zq9evC (go : Lean.Expr → SimpM (Lean.Expr × Lean.Expr)) (bd ps h : Lean.Expr) : SimpM Lean.Expr := do
 if let some r ← zq9atRoot (← mkAppM ``fy #[bd, ps, h]) then
  if (zq9someArg? r.expr).isSome then return ← r.getProof
 let d ← zq9wh ps
 if d.isAppOf ``List.nil || d.isAppOf ``List.cons then zq9evL go bd h 300 d
 else
  let d := if ps.isAppOfArity ``List.map 4 then ps else d
  unless d.isAppOfArity ``List.map 4 do
   let r ← zq9sm (← mkAppM ``fy #[bd, ps, h])
   if (zq9someArg? r.expr).isSome then return ← r.getProof
   zq9er
  let fn := d.getAppArgs[2]!
  let L := d.appArg!
  let α := d.getAppArgs[0]!
  withLocalDeclD `x α fun x => do
   let mem ← mkAppM ``Membership.mem #[L, x]
   withLocalDeclD `hx mem fun hx => do
    let thms ← (← Simp.getContext).simpTheorems.addTheorem (.fvar hx.fvarId!) hx
    Simp.withSimpTheorems thms do
     let (r, p) ← zq9evE go bd (mkApp fn x).headBeta h
     let some v := zq9someArg? r | zq9er
     let o := v.appFn!.appArg!
     match zq9someArg? o with
     | some q =>
      let q ← mkLambdaFVars #[x] q
      mkAppOptM ``DZ #[some α, some fn, some q, some h, some bd, some L, some (← mkLambdaFVars #[x, hx] p)]
     | none => zq9er

def zq9evLeaf (e : Lean.Expr) : SimpM (Lean.Expr × Lean.Expr) := do
 let r ← zq9sm e
 let x ← zq9nRs r.expr
 return (x, ← zq9prf r e x)

def zq9evRed (e : Lean.Expr) : SimpM (Lean.Expr × Lean.Expr) := do
 match ← zq9nRes e with
 | some x => return (x, ← mkExpectedTypeHint (← mkEqRefl x) (← mkEq e x))
 | none => zq9evLeaf e

def zq9evB1 (go : Lean.Expr → SimpM (Lean.Expr × Lean.Expr)) (c : Lean.Name) (f e : Lean.Expr) (as : Array Lean.Expr) : SimpM (Lean.Expr × Lean.Expr) := do
 let (r, p) ← go (mkApp as[2]! as[4]!)
 let (a, st) ← zq9okR9 r
 let (r2, p2) ← go (mkApp2 as[3]! a st).headBeta
 return (r2, zq9mkn ``abz #[as[0]!, as[1]!, as[2]!, as[3]!, as[4]!, st, a, r2, p, p2])

def zq9evB2 (go : Lean.Expr → SimpM (Lean.Expr × Lean.Expr)) (c : Lean.Name) (f e : Lean.Expr) (as : Array Lean.Expr) : SimpM (Lean.Expr × Lean.Expr) := do
 if as[0]!.isConstOf ``Bool && !(zq9isT9 as[1]! || zq9isF9 as[1]!) then
  let (b, p) ← zq9evB as[1]!
  let f := mkLambda `x .default (mkConst ``Bool) (zq9okE as[0]! (Lean.Expr.bvar 0) as[2]!)
  return (zq9okE as[0]! b as[2]!, ← mkExpectedTypeHint (← mkCongrArg f p) (← mkEq e (zq9okE as[0]! b as[2]!)))
 let x := zq9okE as[0]! as[1]! as[2]!
 return (x, ← zq9rflT e x)

def zq9evB3 (go : Lean.Expr → SimpM (Lean.Expr × Lean.Expr)) (c : Lean.Name) (f e : Lean.Expr) (as : Array Lean.Expr) : SimpM (Lean.Expr × Lean.Expr) := do
 let some (_, b, _) := as[1]!.eq? | zq9er
 let (b', p) ← zq9evB b
 if zq9isT9 b' then
  let (r, p2) ← go (mkApp as[3]! as[5]!)
  let α := (← zq9wh as[0]!).bindingBody!.appArg!.appFn!.appArg!.appArg!
  return (r, zq9mkn ``adV #[α, b, as[3]!, as[4]!, as[5]!, r, p, p2])
 else if zq9isF9 b' then
  let (r, p2) ← go (mkApp as[4]! as[5]!)
  let α := (← zq9wh as[0]!).bindingBody!.appArg!.appFn!.appArg!.appArg!
  return (r, zq9mkn ``adW #[α, b, as[3]!, as[4]!, as[5]!, r, p, p2])
 else zq9er

def zq9evB4 (go : Lean.Expr → SimpM (Lean.Expr × Lean.Expr)) (c : Lean.Name) (f e : Lean.Expr) (as : Array Lean.Expr) : SimpM (Lean.Expr × Lean.Expr) := do
 let st := mkApp2 (mkConst ``bY.mk) (← zq9nList true 200 (mkApp2 (mkConst ``gj) as[1]! as[2]!)) as[3]!
 let (r, p) ← go (mkApp as[0]! st)
 let (a, s1) ← zq9okR9 r
 let h1 := if s1.isAppOfArity ``bY.mk 2 then s1.appArg! else mkApp (mkConst ``bY.h) s1
 if a.isAppOf ``dB.rt then return (zq9okH a.appArg! h1, zq9mkn ``v7 #[as[0]!, as[1]!, as[2]!, as[3]!, a.appArg!, s1, p])
 else if a.isConstOf ``dB.nx then return (zq9okH (mkConst ``PV.aL) h1, zq9mkn ``ZK #[as[0]!, as[1]!, as[2]!, as[3]!, s1, p])
 else zq9er

def zq9evB5 (go : Lean.Expr → SimpM (Lean.Expr × Lean.Expr)) (c : Lean.Name) (f e : Lean.Expr) (as : Array Lean.Expr) : SimpM (Lean.Expr × Lean.Expr) := do
 let k := if c == ``mC then 1 else 0
 let (ρ, h) ← zq9stH as[3 + k]!
 let as' ← zq9nList false 50 as[2 + k]!
 let q ← mkAppM ``Bool.or #[← mkAppM ``List.isEmpty #[h], ← mkAppM ``ao #[as']]
 let q ← if k == 1 then mkAppM ``and #[← mkAppM ``BEq.beq #[as[0]!, mkNatLit 0], q] else pure q
 let (b, pb) ← zq9evB q
 let hl ← mkExpectedTypeHint (← mkEqRefl as[k]!) (← mkEq (← mkAppM ``List.length #[as']) as[k]!)
 if zq9isT9 b then
  let q0 ← mkAppM ``Bool.or #[← mkAppM ``List.isEmpty #[h], ← mkAppM ``ao #[as']]
  let (_, pb0) ← zq9evB q0
  let cl := mkApp2 as[1 + k]! as' (← mkAppOptM ``List.nil #[some (mkConst ``aj)])
  let (r, p) ← go cl
  let some (v, h') := zq9okArgs? r | zq9er
  let fz := mkApp2 (mkConst ``gM) h' v
  let (qv, pf) ← zq9evP fz
  return (zq9okV qv as[3 + k]!, mkAppN (mkConst (if k == 1 then ``ZL else ``Cd)) #[as[k]!, as[1 + k]!, as', as[3 + k]!, v, qv, h', pb0, hl, p, pf])
 else if zq9isF9 b && k == 1 then
  let (r, p) ← go (mkApp2 as[2]! as' h)
  let some (v, h') := zq9okArgs? r | zq9er
  return (zq9okV v (zq9mkS ρ h'), zq9mkn ``Xa #[as[0]!, as[1]!, as[2]!, as', as[4]!, v, h', pb, hl, p])
 else zq9er

def zq9evB6 (go : Lean.Expr → SimpM (Lean.Expr × Lean.Expr)) (c : Lean.Name) (f e : Lean.Expr) (as : Array Lean.Expr) : SimpM (Lean.Expr × Lean.Expr) := do
 unless zq9isLit as[2]! 300 || as[2]!.isAppOf ``List.cons do
  let r ← zq9sm e
  if (zq9someArg? r.expr).isSome then
   let x ← zq9nRs r.expr
   return (x, ← zq9prf r e x)
 let ps ← zq9wh as[2]!
 if ps.isAppOf ``List.cons || ps.isAppOf ``List.nil then
  let some d ← withDefault (unfoldDefinition? (mkAppN f #[as[0]!, as[1]!, ps, as[3]!])) | zq9er
  let (r, p) ← go (← whnfCore d)
  return (r, ← mkExpectedTypeHint p (← mkEq e r))
 else zq9evLeaf e

def zq9evB7 (go : Lean.Expr → SimpM (Lean.Expr × Lean.Expr)) (c : Lean.Name) (f e : Lean.Expr) (as : Array Lean.Expr) : SimpM (Lean.Expr × Lean.Expr) := do
 let (r, p) ← go (mkApp as[2]! as[4]!)
 let (src, st) ← zq9okR9 r
 unless src.isAppOf ``BL.sq do zq9er
 let ps0 := src.appArg!
 let (ps, p) ← if ps0.isAppOf ``List.map || zq9isLit ps0 300 then pure (ps0, p) else (do
  let r ← zq9sm ps0
  let lt := mkApp (mkConst ``List [0]) (mkConst ``PV)
  let lam := mkLambda `l .default lt (zq9okE (mkConst ``BL) (mkApp (mkConst ``BL.sq) (Lean.Expr.bvar 0)) st)
  return (r.expr, ← mkEqTrans p (← mkCongrArg lam (← r.getProof))))
 let ρ ← zq9nList true 100 (mkApp2 (mkConst ``dt) as[1]! st.appFn!.appArg!)
 let bd := mkApp as[3]! ρ
 let h := st.appArg!
 let le ← mkAppM ``LE.le #[← mkAppM ``List.length #[ps], mkNatLit 4000000]
 let hl ← match ← zq9mkLe (← mkAppM ``List.length #[ps]) (mkNatLit 4000000) with
  | some p => pure p
  | none => match ← zq9byS le with | some p => pure p | none => zq9er
 let hc ← zq9evC go bd ps h
 let rc ← zq9eqR hc
 let x := rc.appArg!
 let qs := x.appFn!.appArg!
 return (zq9okV (mkApp (mkConst ``PV.lst) qs) (zq9mkS st.appFn!.appArg! x.appArg!), zq9mkn ``ZM #[as[1]!, as[2]!, as[3]!, as[4]!, st, ps, qs, x.appArg!, p, hl, hc])

def zq9evB8 (go : Lean.Expr → SimpM (Lean.Expr × Lean.Expr)) (c : Lean.Name) (f e : Lean.Expr) (as : Array Lean.Expr) : SimpM (Lean.Expr × Lean.Expr) := do
 let (ρ, h) ← zq9stH as[3]!
 let as' ← zq9nList false 50 as[2]!
 let hl ← mkExpectedTypeHint (← mkEqRefl as[0]!) (← mkEq (← mkAppM ``List.length #[as']) as[0]!)
 let (r, p) ← go (mkApp2 as[1]! as' h)
 let some (v, h') := zq9okArgs? r | zq9er
 return (zq9okV v (zq9mkS ρ h'), zq9mkn ``Xb #[as[0]!, as[1]!, as', as[3]!, v, h', hl, p])

def zq9evB9 (go : Lean.Expr → SimpM (Lean.Expr × Lean.Expr)) (c : Lean.Name) (f e : Lean.Expr) (as : Array Lean.Expr) : SimpM (Lean.Expr × Lean.Expr) := do
 let (ρ, h) ← zq9stH as[4]!
 let l ← zq9nList false 50 as[3]!
 let hl ← mkExpectedTypeHint (← mkEqRefl as[1]!) (← mkEq (← mkAppM ``HAdd.hAdd #[← mkAppM ``List.length #[l], mkNatLit 1]) as[1]!)
 let cell := mkApp2 (mkConst ``aj.mk) (mkApp2 (mkConst ``Kd.ins) as[0]! (mkApp (mkConst ``List.nil [0]) (mkConst ``PySem.Str))) (mkApp (mkConst ``List.nil [0]) (mkConst ``PV))
 let h1 ← mkAppM ``HAppend.hAppend #[h, zq9one cell]
 let me := mkApp (mkConst ``PV.ref) (← mkAppM ``List.length #[h])
 let (r, p) ← go (mkApp2 as[2]! (mkApp3 (mkConst ``List.cons [0]) (mkConst ``PV) me l) h1)
 let some (_, h') := zq9okArgs? r | zq9er
 return (zq9okV me (zq9mkS ρ h'), zq9mkn ``ZN #[as[0]!, as[1]!, as[2]!, l, as[4]!, h', hl, p])

def zq9evB10 (go : Lean.Expr → SimpM (Lean.Expr × Lean.Expr)) (c : Lean.Name) (f e : Lean.Expr) (as : Array Lean.Expr) : SimpM (Lean.Expr × Lean.Expr) := do
 let (r, p) ← go (mkApp as[0]! as[1]!)
 let (v, s1) ← zq9okR9 r
 let v ← zq9nVal v
 unless v.isAppOfArity ``PV.nd 2 do zq9er
 let ps := v.appArg!
 let (cl, pc) ← zq9evP (mkApp (mkConst ``GJ) ps)
 let (ρ, h) ← zq9stH s1
 let h ← zq9stripH 60 h
 let h1 ← mkAppM ``HAppend.hAppend #[h, zq9one cl]
 let me := mkApp (mkConst ``PV.ref) (← mkAppM ``List.length #[h])
 return (zq9okV me (zq9mkS ρ h1), zq9mkn ``ZO #[as[0]!, as[1]!, s1, ps, cl, p, pc])

def zq9evB11 (go : Lean.Expr → SimpM (Lean.Expr × Lean.Expr)) (c : Lean.Name) (f e : Lean.Expr) (as : Array Lean.Expr) : SimpM (Lean.Expr × Lean.Expr) := do
 let (r, p) ← go (mkApp as[1]! as[4]!)
 let (b, s1) ← zq9okR9 r
 if zq9isT9 b || zq9isF9 b then
  let t := zq9isT9 b
  let (r2, p2) ← go (mkApp (if t then as[2]! else as[3]!) s1)
  return (r2, mkAppN (mkConst (if t then ``ZI else ``ZJ)) #[as[0]!, as[1]!, as[2]!, as[3]!, as[4]!, s1, r2, p, p2])
 else zq9er
def zq9ev : Nat → Lean.Expr → SimpM (Lean.Expr × Lean.Expr)
 | 0, e => zq9er
 | n + 1, e => do
  let e := e.headBeta
  let f := e.getAppFn
  let as := e.getAppArgs
  match f with
  | .const c _ =>
   if c == ``bnd && as.size == 5 then
    zq9evB1 (zq9ev n) c f e as
   else if c == ``cA && as.size == 3 then
    zq9evB2 (zq9ev n) c f e as
   else if c == ``jT && as.size == 3 then
    let (v, p) ← zq9evP as[1]!
    return (zq9okE as[0]! v as[2]!, zq9mkn ``aby #[as[0]!, as[1]!, v, as[2]!, p])
   else if c == ``hp && as.size == 3 then
    let (ρ, h) ← zq9stH as[2]!
    let (v, p) ← zq9evP (mkApp as[1]! h).headBeta
    return (zq9okE as[0]! v as[2]!, zq9mkn ``adU #[as[0]!, as[1]!, v, as[2]!, p])
   else if c == ``stp && as.size == 2 then
    let (v, p) ← zq9evP (mkApp as[0]! as[1]!).headBeta
    return (zq9okE (mkConst ``dB) (mkConst ``dB.nx) v, zq9mkn ``Vw #[as[0]!, as[1]!, v, p])
   else if c == ``ite && as.size == 6 then
    zq9evB3 (zq9ev n) c f e as
   else if c == ``gT && as.size == 4 then
    zq9evB4 (zq9ev n) c f e as
   else if (c == ``mC && as.size == 5) || (c == ``jE && as.size == 4) then
    zq9evB5 (zq9ev n) c f e as
   else if c == ``fS && as.size == 4 then
    zq9evB6 (zq9ev n) c f e as
   else if c == ``jD && as.size == 5 && zq9isF9 as[0]! then
    zq9evB7 (zq9ev n) c f e as
   else if c == ``ig && as.size == 4 then
    zq9evB8 (zq9ev n) c f e as
   else if c == ``K1 && as.size == 5 then
    zq9evB9 (zq9ev n) c f e as
   else if c == ``KI && as.size == 2 then
    zq9evB10 (zq9ev n) c f e as
   else if c == ``run || c == ``RX then zq9evLeaf e
   else if c == ``oq && as.size == 5 && as[0]!.isConstOf ``Bool && (as[2]!.isAppOf ``cA || as[3]!.isAppOf ``cA) then
    zq9evB11 (zq9ev n) c f e as
   else if zq9evUnfold.contains c then
    let some d ← withDefault (unfoldDefinition? e) | zq9evRed e
    zq9ev n (← whnfCore d)
   else
    let some d ← withDefault (unfoldDefinition? e) | zq9evRed e
    let d ← withReducible (whnf d)
    match d.getAppFn with
    | .const c' _ =>
     if c' == ``bnd || c' == ``cA || zq9evUnfold.contains c' then
      let (r, p) ← zq9ev n d
      return (r, ← mkExpectedTypeHint p (← mkEq e r))
     else zq9evRed e
    | _ => zq9evRed e
  | .fvar _ => zq9evLeaf e
  | _ => zq9evRed e
simproc_decl gk (gx _ _) := fun e => do
 let as := e.getAppArgs
 let (r, p) ← zq9ev 400 (mkApp as[1]! as[2]!)
 return .done { expr := r, proof? := zq9mkn ``abA #[as[0]!, as[1]!, as[2]!, r, p] }
simproc_decl bI (gT _ _ _ _) := fun e => do
 let (r, p) ← zq9ev 400 e
 return .done { expr := r, proof? := p }
end
end L2.U
namespace bH
open PySem L2 L2.U
theorem Cg(c:Nat)(t:Int):run aM (c+1) "place_of" [ef t,.int t] []=some (.ok (.int 0),[]):=by
 rw[vU];simp only[↓bI,ef,D6,f7];rfl
theorem M7{f:Gx dB}{st st':bY}{x:dB}(h:f st=some (.ok x,st')):DK f st=some (.ok x,st'):=by
 unfold DK;rw[h]
theorem HE(c:Nat)(t:Int):run aM (c+2) "read_by" [ef t,.int t] []=some (.ok (ef t),[]):=by
 have e1:=Cg c t;rw[yk];simp only[↓bI,e1];rfl
theorem HF(c:Nat)(t:Int):run aM (c+2) "written_by" [ef t,.int t] []=some (.ok (ef t),[]):=by
 have e1:=Cg c t;rw[qY];simp only[↓bI,e1];rfl
theorem AS(c:Nat)(t x:Int){w:Str}(hw:w="read"\/w="write"):run aM (c+3) "pile_behind" [ef t,.str w,.int t,.int x] []=some (.ok (ef t),[]):=by
 have e1:=HE c t;have e2:=HF c t;have nr:ao [ef t,.int t]=true:=rfl;rw[oI];refine v7 (st':=⟨[some (ef t),some (.str w),some (.int t),some (.int x)],[]⟩) (M7 ?_);rcases hw with rfl | rfl
 ·refine bA ?_;simp only[↓gk,e1,nr]
 ·refine bA ?_;simp only[↓gk,e2,nr]
end bH
set_option maxHeartbeats 4000000
namespace bH
open PySem L2 L2.U
abbrev Pl:Type:=List (Nat×PV)
noncomputable def ly(P:Pl):List PV:=P.map λx=>.ref x.1
def cP(P:Pl):PV:=.lst (P.map λx=>x.2)
noncomputable def mH(x:Str):bQ×List bQ:=(.inr x,[])
def wN(h:List aj)(g:Nat)(P:Pl):Prop:=∃t,h[g]?=some (IH (ly P) t)/\∀x∈P,∃m,h[x.1]?=some (jd m t x.2)
def oK(H:List (Str×Nat×Pl)):aj:=⟨.eQ false (H.map λe=>mH e.1),H.map λe=>.ref e.2.1⟩
noncomputable abbrev o8(j:Int)(d:Nat)(r:Int):aj:=⟨.ins "Frame" ["at","has","row"],[.int j,.ref d,.int r]⟩
structure Ac where
 w:Str
 x:Str
 t:Bool
 f:Nat
 m:Nat
 k:Str
def cK(k:Nat)(a:Ac):PV:=.au [.int (k:Int),.str a.w,.str a.x,.bl a.t,.int (a.f:Int),.int (a.m:Int),.str a.k]
def jM(a:Ac):PV:=.au [.str a.w,.str a.x,.bl a.t,.int (a.f:Int),.int (a.m:Int),.str a.k]
theorem ua{x:Str}:∀{H:List (Str×Nat×Pl)} {P:Nat×Pl},H.lookup x=some P->gX (mH x) (H.map λe=>mH e.1) (H.map λe=>.ref e.2.1)=some (.ref P.1)
 | [],_,e=>by cases e
 | (y,Q)::H,P,e=>by
  show(if mH y=mH x then some (.ref Q.1)else gX (mH x) (H.map λe=>mH e.1) (H.map λe=>.ref e.2.1))=_
  rw[dy]at e;by_cases h:x=y
  ·subst h;rw[if_pos rfl];rw[f7]at e;cases e;rfl
  ·rw[if_neg (λz=>h (by unfold mH at z;injection z with z1 _;injection z1 with z2;exact z2.symm))]
   rw[hZ.mpr h]at e;exact ua e
theorem lz{h:List aj}{d:Nat}{H:List (Str×Nat×Pl)}{x:Str}{P:Nat×Pl}(e:h[d]?=some (oK H))(l:H.lookup x=some P):aZ h (.ref d) (.str x)=some (.ref P.1):=by
 have e1:=ak (k:=.eQ false (H.map λe=>mH e.1)) (ps:=H.map λe=>.ref e.2.1) e rfl
 simp only[aZ,e1];exact ua l
theorem Ci{h:List aj}{k:Nat}{a:Ac}:aZ h (cK k a) (.int 2)=some (.str a.x):=rfl
theorem Vx{h:List aj}{k:Nat}{a:Ac}:aZ h (cK k a) (.int 4)=some (.int (a.f:Int)):=rfl
theorem Vy{h:List aj}{k:Nat}{a:Ac}:aZ h (cK k a) (.int 5)=some (.int (a.m:Int)):=rfl
theorem ub{h:List aj}{k:Nat}{a:Ac}:aZ h (cK k a) (.int 1)=some (.str a.w):=rfl
theorem Le{α:Type}(f:α->PV)(P:List α)(a m:Nat)(hm:a+m<=P.length):i8 (P.map f) (some (a:Int)) (some ((a:Int)+(m:Int)))=((P.drop a).take m).map f:=by
 unfold i8;have e:((a:Int)+(m:Int))=((a+m:Nat):Int):=rfl;rw[e,HT.oU,HT.oU,aU,uJ (by lia),uJ (by lia),Nat.add_sub_cancel_left,List.map_take,List.map_drop]
noncomputable def aD(H:List (Str×Nat×Pl))(a:Ac):Pl:=(((H.lookup a.x).map λP=>P.2).getD []).drop a.f |>.take a.m
structure lJ (h:List aj) (fi d:Nat) (j r:Int) (H:List (Str×Nat×Pl)):Prop where
 f:h[fi]?=some (o8 j d r)
 d:h[d]?=some (oK H)
 p:∀e∈H,wN h e.2.1 e.2.2
 l:∀e∈H,e.2.2.length<=1000
def oM(H:List (Str×Nat×Pl))(a:Ac):Prop:=∃P,H.lookup a.x=some P/\a.f+a.m<=P.2.length
theorem nK{H:List (Str×Nat×Pl)}{x:Str}{P:Nat×Pl}:H.lookup x=some P->(x,P)∈H:=fW
theorem lA{H:List (Str×Nat×Pl)}{a:Ac}{P:Nat×Pl}(l:H.lookup a.x=some P):aD H a=(P.2.drop a.f).take a.m:=by unfold aD;rw[l];rfl
theorem Qy(c:Nat){h:List aj}{fi d k:Nat}{j r:Int}{H:List (Str×Nat×Pl)}{a:Ac}(R:lJ h fi d j r H)(ft:oM H a) :
  run aM (c+1) "boxes_of" [.ref fi,cK k a] h=some (.ok (.lst (ly (aD H a))),h):=by
 obtain⟨P,l,hm⟩:=ft;rw[lA l];rw[vV];have d1:=ak R.f rfl;have i1:=lz R.d l;obtain⟨t,g1,g2⟩:=R.p _ (nK l);have g1:h[P.1]?=some (IH (ly P.2) t):=g1;have d2:=ak g1 rfl;simp only[↓bI,d1,d2,i1,Ci,Vx,Vy,ly,Le _ P.2 a.f a.m hm]
theorem rm{H:List (Str×Nat×Pl)}{a:Ac}{h:List aj}{fi d:Nat}{j r:Int}(R:lJ h fi d j r H)(ft:oM H a):∃g Q t,aZ h (.ref d) (.str a.x)=some (.ref g)/\h[g]?=some (IH Q t)/\∀x∈aD H a,∃m,h[x.1]?=some (jd m t x.2):=by
 obtain⟨P,l,hm⟩:=ft;obtain⟨t,g1,g2⟩:=R.p _ (nK l);refine⟨P.1,_,t,lz R.d l,g1,λx hx=>g2 x ?_⟩
 rw[lA l]at hx;exact za (zc hx)
theorem HG(c:Nat){h:List aj}{fi d k:Nat}{j r:Int}{H:List (Str×Nat×Pl)}{a:Ac}(R:lJ h fi d j r H)(ft:oM H a):run aM (c+1) "check_held" [.ref fi,cK k a] h=some (.ok .aL,h):=by
 obtain⟨g,Q,t,i1,_,_⟩:=rm R ft;have d1:=ak R.f rfl;rw[qZ];simp only[↓bI,d1,i1,Ci]
def Tw(a:Ac):Prop:=a.w="read"\/a.w="fill"\/a.w="turn"
theorem Qz(c k:Nat){a:Ac}(h:Tw a):run aM (c+1) "asks_for_full" [cK k a] []=some (.ok (.bl (!(a.w=="fill"))),[]):=by
 obtain⟨w,x,t,f,m,tk⟩:=a;have h:w="read"\/w="fill"\/w="turn":=h;rcases h with rfl | rfl | rfl<;>kernel_rfl
theorem nV(k:Nat)(a:Ac):noRef (cK k a)=true:=by simp[cK,noRef,ao]
end bH
set_option maxHeartbeats 4000000
namespace bH
open PySem L2 L2.U
theorem dR{h:List aj}{i j:Nat}{c d:aj}(e:h[i]?=some c)(f:h[j]?=some d)(n:c≠d):i≠j:=by
 intro z;subst z;rw[e]at f;exact n (aX f)
theorem Lf(c:Nat){g:List aj}{fi d q k n:Nat}{j r m t:Int}{a:Ac}{L:List PV}{x:Nat×PV}(W:Wd g (n+1))(hf:g[fi]?=some (o8 j d r))(hq:g[q]?=some ⟨.lst,L⟩)(hx:g[x.1]?=some (jd m t x.2))(q1:q≠1)(hw:Tw a)(hv:a.w≠"fill"->d8 x.2=false)(hL:L.length<=4000){x7:Option PV} :
  ∃g',aI (run aM (c+4)) ⟨[some (.ref 0),some (.ref fi),some (cK k a),some (.int (-1)),some (.ref q),some (.int t),some (.ref x.1),x7],g⟩=some (.ok .nx,⟨[some (.ref 0),some (.ref fi),some (cK k a),some (.int (-1)),some (.ref q),some (.int t),some (.ref x.1),some (ef t)],g'⟩)/\Ch g g' [1,q]/\Wd g' n/\g'[q]?=some ⟨.lst,L++[x.2]⟩:=by
 have⟨nb,nt,_,h0,_,_⟩:=W;obtain⟨es,h1,hl,W1⟩:=Wd.add (v:=.au [.int j,.int r,.str (if a.w="read" then "read" else "write"),.int m,.int t,.int (-1)]) W
 have ap:=λρ v=>eZ (ρ:=ρ) (v:=v) h1 hl
 have x1:x.1≠1:=dR hx h1 (by intro z;cases z)
 obtain⟨g1,nW⟩:∃g1,g1=g.set 1 ⟨.lst,es++[.au [.int j,.int r,.str (if a.w="read" then "read" else "write"),.int m,.int t,.int (-1)]]⟩:=⟨_,rfl⟩
 rw[<-nW]at W1;have c1:Ch g g1 [1]:=by rw[nW];exact Ch.set _
 have bx:=c1.get hx (by simp;exact x1)
 have qx:=c1.get hq (by simp;exact q1)
 have d0:=ak h0 rfl;have d1:=ak h1 rfl;have df:=ak hf rfl;have db:=ak hx rfl;have QA:=ak bx rfl;have VA:=ak qx rfl;have pp:=λρ=>yp (ρ:=ρ) bx
 have aq:=λρ v=>eZ (ρ:=ρ) (v:=v) qx (by lia)
 have pr:=AS (c+1) t (-1) (w:="read") (.inl rfl);have pw:=AS (c+1) t (-1) (w:="write") (.inr rfl);have VB:∀w:Str,ao [ef t,.str w,.int t,.int (-1)]=true:=λ_=>rfl
 have VC:ao [cK k a]=true:=by simp[ao,nV]
 have as:=Qz (c+3) k hw;have iso:∀h,RQ h x.2 .aL=some (.bl (d8 x.2)):=λh=>rfl
 have hE:=fj hx;have oN:=fj bx;refine⟨g1.set q ⟨.lst,L++[x.2]⟩,?_,?_,W1.ch (Ch.set _) ?_,cz qx⟩
 ·rcases hw with h | h | h
  ·have e1:∀h,aZ h (cK k a) (.int 1)=some (.str "read"):=λ_=>by rw[ub,h]
   rw[h]at as nW;have as:run aM (c+4) "asks_for_full" [cK k a] []=some (.ok (.bl true),[]):=as;have ap:∀ρ,fu (dN fw) (.ref 1) [.au [.int j,.int r,.str "read",.int m,.int t,.int (-1)]] ⟨ρ,g⟩=some (.ok .aL,⟨ρ,g1⟩):=λρ=>by rw[nW];exact ap ρ _
   have v:=hv (by rw[h];decide)
   refine bA ?_
   delta aI gq
   simp only[↓gk,d0,d1,df,db,QA,VA,e1,ap,pr,VB,VC,as,iso,v,pp,aq,hE,oN,cE,cD]
  ·have e1:∀h,aZ h (cK k a) (.int 1)=some (.str "fill"):=λ_=>by rw[ub,h]
   rw[h]at as nW;have as:run aM (c+4) "asks_for_full" [cK k a] []=some (.ok (.bl false),[]):=as;have ap:∀ρ,fu (dN fw) (.ref 1) [.au [.int j,.int r,.str "write",.int m,.int t,.int (-1)]] ⟨ρ,g⟩=some (.ok .aL,⟨ρ,g1⟩):=λρ=>by rw[nW];exact ap ρ _
   refine bA ?_
   delta aI gq
   simp only[↓gk,d0,d1,df,db,QA,VA,e1,ap,pw,VB,VC,as,iso,pp,aq,hE,oN,cE,cD]
  ·have e1:∀h,aZ h (cK k a) (.int 1)=some (.str "turn"):=λ_=>by rw[ub,h]
   rw[h]at as nW;have as:run aM (c+4) "asks_for_full" [cK k a] []=some (.ok (.bl true),[]):=as;have ap:∀ρ,fu (dN fw) (.ref 1) [.au [.int j,.int r,.str "write",.int m,.int t,.int (-1)]] ⟨ρ,g⟩=some (.ok .aL,⟨ρ,g1⟩):=λρ=>by rw[nW];exact ap ρ _
   have v:=hv (by rw[h];decide)
   refine bA ?_
   delta aI gq
   simp only[↓gk,d0,d1,df,db,QA,VA,e1,ap,pw,VB,VC,as,iso,v,pp,aq,hE,oN,cE,cD]
 ·exact Ch.tr (c1.mono (by simp)) (Ch.set _) (by simp)
 ·exact⟨by simp;exact(dR h0 hq (by intro z;cases z)),by simp;exact bU q1⟩
theorem Cj(c:Nat){fi d q k:Nat}{j r t:Int}{a:Ac}(q1:q≠1)(hw:Tw a):∀(P:Pl) (g:List aj) (n:Nat) (L:List PV) (x6 x7:Option PV),Wd g (n+P.length)->g[fi]?=some (o8 j d r)->g[q]?=some ⟨.lst,L⟩->(∀x∈P,∃m,g[x.1]?=some (jd m t x.2))->(a.w≠"fill"->∀x∈P,d8 x.2=false)->L.length+P.length<=4000 ->
  ∃g' y6 y7,fS (dh 6) (aI (run aM (c+4))) (ly P) ⟨[some (.ref 0),some (.ref fi),some (cK k a),some (.int (-1)),some (.ref q),some (.int t),x6,x7],g⟩=some (.ok .nx,⟨[some (.ref 0),some (.ref fi),some (cK k a),some (.int (-1)),some (.ref q),some (.int t),y6,y7],g'⟩)/\Ch g g' [1,q]/\Wd g' n/\g'[q]?=some ⟨.lst,L++P.map (·.2)⟩
 | [],g,n,L,x6,x7,W,hf,hq,hx,hv,hl=>⟨g,x6,x7,rfl,Ch.refl _ _,W,by rw[di,cY];exact hq⟩
 | x::P,g,n,L,x6,x7,W,hf,hq,hx,hv,hl=>by
  rw[cq]at hl W;obtain⟨m,hm⟩:=hx x (by simp)
  obtain⟨g1,e1,c1,w1,u1⟩:=Lf c (k:=k) (x7:=x7) (n:=n+P.length) (W.mono (by lia)) hf hq hm q1 hw (λh=>hv h x (by simp)) (by lia)
  obtain⟨es,h1,_,_⟩:=Wd.add (v:=.aL) (W.mono (k':=0+1) (by lia))
  have n1:∀{i:Nat} {cc:aj},g[i]?=some cc->(∀l,cc≠⟨.lst,l⟩)->i∉[1,q]:=λe n=>by
   simp only[aC,bB,bD,not_or];exact⟨dR e h1 (n _),dR e hq (n _)⟩
  obtain⟨g2,y6,y7,e2,c2,w2,u2⟩:=Cj c (k:=k) (t:=t) q1 hw P g1 n (L++[x.2]) (some (.ref x.1)) (some (ef t)) w1 (c1.get hf (n1 hf (by intro l z;cases z))) u1 (λy hy=>by
   obtain⟨m',Kk⟩:=hx y (by simp[hy])
   exact⟨m',c1.get Kk (n1 Kk (by intro l z;cases z))⟩) (λh y hy=>hv h y (by simp[hy])) (by simp;lia)
  refine⟨g2,y6,y7,?_,c1.tr c2 (λ_ h _=>h),w2,by rw[u2];simp⟩
  exact fC (s1:=⟨[some (.ref 0),some (.ref fi),some (cK k a),some (.int (-1)),some (.ref q),some (.int t),some (.ref x.1),x7],g⟩) rfl e1 e2
theorem iL{h:List aj}{nb nt:Int}{L:List (Str×(Str×Nat))}{m:Str}(e:h[0]?=some (je nb nt))(hm:(["entries","boxes_made","tags_made"]:List Str).contains m=false):DJ L m (.ref 0) h=L.lookup ("Boxes":Str):=by
 unfold DJ K2;rw[ak e rfl];show(if(["entries","boxes_made","tags_made"]:List Str).contains m=true then none else some ("Boxes":Str)).bind (λC=>L.lookup C)=_
 rw[hm,if_neg cf];rfl
theorem Ck(c:Nat){h:List aj}{fi d k n:Nat}{j r:Int}{H:List (Str×Nat×Pl)}{a:Ac}(R:lJ h fi d j r H)(ft:oM H a)(hw:Tw a)(hm:a.m<=2)(hv:a.w≠"fill"->∀x∈aD H a,d8 x.2=false)(W:Wd h (n+2)) :
  ∃h',run aM (c+6) "Boxes.touch" [.ref 0,.ref fi,cK k a] h=some (.ok (cP (aD H a)),h')/\Ch h h' [1]/\Wd h' n:=by
 have e1:=HG (c+4) R ft (k:=k);have⟨nb,nt,es,h0,h1,_⟩:=W;have pm:(aD H a).length<=2:=by
  obtain⟨P,l,_⟩:=ft;rw[lA l,kN]
  lia
 obtain⟨g,Q,t,i1,i2,i3⟩:=rm R ft;have qN:(h++[(⟨.lst,[]⟩:aj)])[h.length]?=some ⟨.lst,[]⟩:=dv;have q1:h.length≠1:=by have:=dZ h1;lia
 obtain⟨h2,y6,y7,e3,c3,w3,u3⟩:=Cj c (k:=k) (j:=j) (r:=r) (d:=d) (fi:=fi) (t:=t) (q:=h.length) q1 hw (aD H a) (h++[⟨.lst,[]⟩]) n [] none none ((W.ch (Ch.app h [⟨.lst,[]⟩] []) (by simp)).mono (by lia)) (bK R.f) qN (λx hx=>by
  obtain⟨m,hm⟩:=i3 x hx;exact⟨m,bK hm⟩) hv (by simp;lia)
 have ZP:aZ (h++[⟨.lst,[]⟩]) (.ref d) (.str a.x)=some (.ref g):=by
  obtain⟨P,l,_⟩:=ft;have e:=lz R.d l;rw[i1]at e;cases e;exact lz (bK R.d) l
 have d1:=ak (bK (g:=[⟨.lst,[]⟩]) R.f) rfl;have d2:=ak (bK (g:=[⟨.lst,[]⟩]) i2) rfl;have RA:lJ (h++[⟨.lst,[]⟩]) fi d j r H:=⟨bK R.f,bK R.d,λe he=>by
  obtain⟨t,a1,a2⟩:=R.p e he;exact⟨t,bK a1,λx hx=>by obtain⟨m,hm⟩:=a2 x hx;exact⟨m,bK hm⟩⟩,R.l⟩
 have e4:=Qy (c+3) RA ft (k:=k);have hE:=fj h0;have oN:=fj (bK (g:=[⟨.lst,[]⟩]) h0);have nr:∀i l,ao (.ref i::l)=false:=λi l=>jL i l
 have ce:=dC u3 rfl;rw[dH]at ce;have e5:run aM (c+5) "Boxes.touch_boxes" [.ref 0,.ref fi,cK k a,.int (-1)] h=some (.ok (cP (aD H a)),h2.set h.length oA):=by
  revert e3
  delta aI gq
  intro e3;rw[fz];simp only[↓bI,d1,d2,ZP,e4,e3,ce,Ci,oN,nr,aT,aS];rfl
 have mt:=λL=>iL (L:=L) (m:="touch_boxes") h0 (by kernel_rfl)
 have c4:Ch h (h2.set h.length oA) [1]:=by
  have a1:Ch h (h++[⟨.lst,[]⟩]) [1]:=Ch.app _ _ _;exact(a1.tr c3 (λn hn hl=>by simp at hn ⊢;lia)).tr (Ch.set _) (λn hn hl=>by simp at hn;lia)
 refine⟨_,?_,c4,w3.ch (Ch.set _) (by simp;have:=dZ h1;lia)⟩
 rw[iZ];simp only[↓bI,e1,e5,mt,hE,nr,aT,aS]
end bH
set_option maxHeartbeats 2000000
namespace bH
open PySem L2 L2.U
structure Nm where
 a:Str
 b:Str
 c:Str
 d:Str
 e:Str
 f:Str
 z:Nat
 y:Nat
inductive N5 where
 | a | b | c | d | e
 deriving DecidableEq
noncomputable def Nm.n(N:Nm):N5->Str
 | .a=>N.a
 | .b=>N.b
 | .c=>N.c
 | .d=>N.d
 | .e=>N.e
structure bh (N:Nm):Prop where
 n:∀{x y:N5},N.n x=N.n y->x=y
 n0:∀x:N5,N.n x≠""
 z1:1<=N.z
 z8:N.z<=8
 y1:1<=N.y
 y8:N.y<=8
def yq:PV:=.au [.str "num"]
def yr(z:Nat):PV:=.au [.str "strip",.int (z:Int)]
def Lg(z:Nat):PV:=.au [.str "rec",.au [yq,yr z]]
noncomputable def kr(N:Nm):N5->PV
 | .a=>yq
 | .b=>yq
 | .c=>yr N.z
 | .d=>.au [.str "own"]
 | .e=>Lg N.y
inductive Ix where
 | at (i:Nat) | a | b
noncomputable def yt(N:Nm):Ix->PV
 | .at i=>.int (i:Int)
 | .a=>.str N.a
 | .b=>.str N.b
inductive Sp where
 | a | b | c | d | n | s | i (x:Ix) | j (x:Ix)
def gy(N:Nm):Sp->PV
 | .a=>.au [.str N.a,.bl false,.au [],.aL]
 | .b=>.au [.str N.b,.bl false,.au [],.aL]
 | .c=>.au [.str N.c,.bl false,.au [],.aL]
 | .d=>.au [.str N.d,.bl false,.au [],.aL]
 | .n=>.au [.str N.e,.bl false,.au [.int 0],.aL]
 | .s=>.au [.str N.e,.bl false,.au [.int 1],.aL]
 | .i x=>.au [.str N.c,.bl false,.au [],yt N x]
 | .j x=>.au [.str N.e,.bl false,.au [.int 1],yt N x]
def II(N:Nm)(x:N5):PV:=.au [.str (N.n x),.bl false,.au [],.aL]
noncomputable def Sp.x:Sp->N5
 | .a=>.a
 | .b=>.b
 | .c=>.c
 | .i _=>.c
 | .d=>.d
 | _=>.e
noncomputable def Sp.f:Sp->Nat
 | .s=>1
 | .j _=>1
 | _=>0
inductive Op where
 | num (i:Int) | sp (s:Sp)
def i6(N:Nm):Op->PV
 | .num i=>.int i
 | .sp s=>gy N s
inductive Sg where
 | add | sub | mul
noncomputable def Lh:Sg->Str
 | .add=>"+"
 | .sub=>"-"
 | .mul=>"*"
inductive Rw where
 | put (s:Sp) (o:Op)
 | fill (s:Sp) (o:Op)
 | set (s:Sp) (g:Sg) (o p:Op)
 | eR (s t:Sp)
 | gU (x:N5)
 | j9 (o:Op)
 | ifs (o p:Op) (k:Nat)
 | go (k:Nat)
 | cV
def bJ(N:Nm):Rw->PV
 | .put s o=>.au [.str "put",gy N s,i6 N o]
 | .fill s o=>.au [.str "fill",gy N s,i6 N o]
 | .set s g o p=>.au [.str "set",gy N s,.str (Lh g),i6 N o,i6 N p]
 | .eR s t=>.au [.str "copy",gy N s,gy N t]
 | .gU x=>.au [.str "move",II N x,II N x]
 | .j9 o=>.au [.str "say",i6 N o]
 | .ifs o p k=>.au [.str "if",i6 N o,i6 N p,.int (k:Int)]
 | .go k=>.au [.str "go",.int (k:Int)]
 | .cV=>.au [.str "give",.str ""]
def sJ(N:Nm)(x:N5):PV:=.au [.str (N.n x),kr N x]
def fdP(N:Nm)(R:List Rw):PV:=.au [.str N.f,.au [sJ N .a],.aL,.au ([N5.b,.c,.d,.e].map (sJ N)),.au (R.map (bJ N))]
theorem HH(N:Nm)(s:Sp):noRef (gy N s)=true:=by
 cases s
 case i x=>cases x<;>rfl
 case j x=>cases x<;>rfl
 all_goals rfl
theorem VD(N:Nm)(o:Op):noRef (i6 N o)=true:=by
 cases o
 ·rfl
 ·exact HH N _
theorem fO{α:Type}{f:α->PV}(h:∀x,noRef (f x)=true):∀l:List α,ao (l.map f)=true
 | []=>rfl
 | x::l=>by rw[aQ,ao,h x,fO h l];rfl
theorem wa{l:List PV}(h:ao l=true):noRef (.lst l)=true:=by rw[noRef];exact h
theorem QB{l:List PV}(h:ao l=true):noRef (.au l)=true:=by rw[noRef];exact h
theorem yu(N:Nm)(x:N5):noRef (kr N x)=true:=by cases x<;>rfl
theorem uc(N:Nm)(r:Rw):noRef (bJ N r)=true:=by
 cases r
 all_goals simp[bJ,II,noRef,ao,HH,VD,fO]
theorem nX(N:Nm)(F:List Rw):noRef (fdP N F)=true:=by
 simp[fdP,sJ,noRef,ao,fO,yu,uc]
theorem bh.b{N:Nm}(K:bh N){x y:N5}(h:x≠y):(N.n x==N.n y)=false:=hZ.mpr λe=>h (K.n e)
theorem o9{h:List aj}{x y:Str}:lg h (.str x) (.str y)=some (.bl (x==y)):=rfl
theorem wb(c:Nat){N:Nm}(K:bh N)(F:List Rw)(x:N5):run aM (c+1) "kind_of" [fdP N F,.str (N.n x)] []=some (.ok (kr N x),[]):=by
 rw[yg];have h1:∀(h:List aj) (y z:N5),y≠z->lg h (.str (N.n y)) (.str (N.n z))=some (.bl false):=λh y z e=>by rw[o9,K.b e]
 have h2:∀(h:List aj) (y:N5),lg h (.str (N.n y)) (.str (N.n y))=some (.bl true):=λh y=>by rw[o9,f7]
 cases x<;>simp only[↓bI,h1,h2,fdP,sJ,aQ,di,ne_eq,reduceCtorEq,not_false_eq_true]<;>rfl
end bH
set_option maxHeartbeats 2000000
namespace bH
open PySem L2 L2.U
noncomputable def rn:N5->Nat
 | .e=>2
 | _=>1
def ud(N:Nm)(w:Str)(s:Sp):Ac:=⟨w,N.n s.x,false,s.f,1,""⟩
def AU(N:Nm)(w:Str)(x:N5):Ac:=⟨w,N.n x,false,0,rn x,""⟩
theorem g8(c:Nat)(N:Nm)(x:N5):run aM (c+1) "is_holder" [kr N x] []=some (.ok (.bl false),[]):=by
 cases x<;>kernel_rfl
theorem wc(c:Nat)(N:Nm)(x:N5):run aM (c+2) "shape_of" [kr N x] []=some (.ok (kr N x),[]):=by
 cases x<;>kernel_rfl
theorem touch_s(c:Nat){N:Nm}(K:bh N)(F:List Rw)(w t:Str)(s:Sp):run aM (c+8) "touch" [fdP N F,.str w,gy N s,.str t] []=some (.ok (jM ⟨w,N.n s.x,false,s.f,1,t⟩),[]):=by
 rw[t9];have e1:∀h,aZ h (gy N s) (.int 0)=some (.str (N.n s.x)):=λh=>by cases s<;>rfl
 have e2:∀h,aZ h (gy N s) (.int 1)=some (.bl false):=λh=>by cases s<;>rfl
 have e3:=λx=>wb (c+6) K F x
 have e4:=λx=>wc (c+5) N x
 cases s<;>simp only[↓bI,e1,e2,e3,e4]<;>rfl
theorem touch_w(c:Nat){N:Nm}(K:bh N)(F:List Rw)(w t:Str)(x:N5):run aM (c+8) "touch" [fdP N F,.str w,II N x,.str t] []=some (.ok (jM ⟨w,N.n x,false,0,rn x,t⟩),[]):=by
 rw[t9];have e3:=λx=>wb (c+6) K F x
 have e4:=λx=>wc (c+5) N x
 cases x<;>simp only[↓bI,e3,e4,II]<;>rfl
theorem Cm(c:Nat){N:Nm}(K:bh N)(F:List Rw)(w t:Str)(x:N5):run aM (c+9) "touch_whole" [fdP N F,.str w,.str (N.n x),.str t] []=some (.ok (jM ⟨w,N.n x,false,0,rn x,t⟩),[]):=by
 rw[oG];have e3:=λx=>wb (c+7) K F x
 have e4:=λx=>g8 (c+7) N x
 have e5:run aM (c+8) "touch" [fdP N F,.str w,.au [.str (N.n x),.bl false,.au [],.aL],.str t] []=_:=touch_w c K F w t x;simp only[↓bI,e3,e4,e5]
def M8(N:Nm)(x:N5):Ac:=AU N "read" x
def M9(N:Nm):Ix->List Ac
 | .a=>[M8 N .a]
 | .b=>[M8 N .b]
 | _=>[]
def rX(N:Nm):Sp->List Ac
 | .i x=>M9 N x
 | .j x=>M9 N x
 | _=>[]
def oO(N:Nm):Op->List Ac
 | .num _=>[]
 | .sp s=>rX N s++[ud N "read" s]
def D7(N:Nm):Sp->List Ac
 | .i x=>rX N (.i x)++[ud N "turn" (.i x)]
 | .j x=>rX N (.j x)++[ud N "turn" (.j x)]
 | s=>[ud N "fill" s]
def bZ(N:Nm):Rw->List Ac
 | .put s o=>oO N o++D7 N s
 | .fill s o=>oO N o++D7 N s
 | .set s _ o p=>oO N o++oO N p++D7 N s
 | .eR s t=>[ud N "read" t,ud N "fill" s]
 | .gU x=>[AU N "empty" x,AU N "fill" x]
 | .j9 o=>oO N o
 | .ifs o p _=>oO N o++oO N p
 | .go _=>[]
 | .cV=>[]
noncomputable def Li:Rw->Str
 | .put _ _=>"put_acts"
 | .fill _ _=>"put_acts"
 | .set _ _ _ _=>"set_acts"
 | .eR _ _=>"copy_acts"
 | .gU _=>"move_acts"
 | .j9 _=>"say_acts"
 | .ifs _ _ _=>"if_acts"
 | .go _=>"go_acts"
 | .cV=>"give_acts"
theorem QC(c:Nat){N:Nm}(K:bh N)(F:List Rw)(s:Sp):run aM (c+10) "at_acts" [fdP N F,gy N s] []=some (.ok (.lst ((rX N s).map jM)),[]):=by
 rw[yh];have e1:run aM (c+9) "touch_whole" [fdP N F,.str "read",.str N.a,.str ""] []=some (.ok (jM (M8 N .a)),[]):=Cm c K F "read" "" .a;have e2:run aM (c+9) "touch_whole" [fdP N F,.str "read",.str N.b,.str ""] []=some (.ok (jM (M8 N .b)),[]):=Cm c K F "read" "" .b;cases s
 case i x=>cases x<;>simp only[↓bI,gy,yt,e1,e2]<;>rfl
 case j x=>cases x<;>simp only[↓bI,gy,yt,e1,e2]<;>rfl
 all_goals (simp only[↓bI,gy,yt]<;>rfl)
theorem rp(c:Nat){N:Nm}(K:bh N)(F:List Rw)(o:Op):run aM (c+11) "operand_acts" [fdP N F,i6 N o] []=some (.ok (.lst ((oO N o).map jM)),[]):=by
 rw[nJ];cases o with
 | num i=>simp only[↓bI,i6]<;>rfl
 | sp s =>
  have e1:=QC c K F s;have e2:=touch_s (c+2) K F "read" "" s;have e4:∀st,WN Ty.tuple (rd 1) ⟨[some (fdP N F),some (gy N s)],st⟩=some (.ok (.bl true),⟨[some (fdP N F),some (gy N s)],st⟩):=λst=>by cases s<;>rfl
  cases s
  case i x=>cases x<;>simp only[↓bI,i6,e1,e2,e4]<;>rfl
  case j x=>cases x<;>simp only[↓bI,i6,e1,e2,e4]<;>rfl
  all_goals (simp only[↓bI,i6,e1,e2,e4]<;>rfl)
end bH
set_option maxHeartbeats 2000000
namespace bH
open PySem L2 L2.U
theorem add_l{h:List aj}(A B:List Ac)(hl:A.length+B.length<=1000):gh h (.lst (A.map jM)) (.lst (B.map jM))=some (.lst ((A++B).map jM)):=by
 show L2.U.sizeOk ((A.map jM).length+(B.map jM).length) (.lst (A.map jM++B.map jM))=_;rw[aU,aU,fF];unfold L2.U.sizeOk;exact if_pos (aY hl (by decide))
theorem Cn(N:Nm)(x:Ix):(M9 N x).length<=1:=by cases x<;>simp[M9]
theorem jY(N:Nm)(s:Sp):(rX N s).length<=1:=by
 cases s
 case i x=>exact Cn N x
 case j x=>exact Cn N x
 all_goals simp[rX]
theorem dD(N:Nm)(o:Op):(oO N o).length<=2:=by
 cases o with
 | num i=>simp[oO]
 | sp s=>have:=jY N s;simp[oO];lia
theorem jZ(N:Nm)(s:Sp):(D7 N s).length<=2:=by
 cases s
 case i x=>have:=jY N (.i x);simp[D7];lia
 case j x=>have:=jY N (.j x);simp[D7];lia
 all_goals simp[D7]
theorem HI(c:Nat){N:Nm}(K:bh N)(F:List Rw)(s:Sp):run aM (c+11) "target_acts" [fdP N F,gy N s] []=some (.ok (.lst ((D7 N s).map jM)),[]):=by
 rw[oH];have e0:=touch_s (c+2) K F "fill" "" s;cases s
 case i x =>
  have e1:=QC c K F (.i x);have e2:=touch_s (c+2) K F "turn" "" (.i x);have e3:=λh=>add_l (h:=h) (rX N (.i x)) [ud N "turn" (.i x)] (by have:=jY N (.i x);simp;lia)
  cases x<;>simp only[↓bI,e1,e2,e3]<;>rfl
 case j x =>
  have e1:=QC c K F (.j x);have e2:=touch_s (c+2) K F "turn" "" (.j x);have e3:=λh=>add_l (h:=h) (rX N (.j x)) [ud N "turn" (.j x)] (by have:=jY N (.j x);simp;lia)
  cases x<;>simp only[↓bI,e1,e2,e3]<;>rfl
 all_goals (simp only[↓bI,e0]<;>rfl)
theorem VE(c:Nat){N:Nm}(K:bh N)(F:List Rw)(s:Sp)(o:Op):run aM (c+12) "put_acts" [fdP N F,bJ N (.put s o)] []=some (.ok (.lst ((bZ N (.put s o)).map jM)),[]):=by
 rw[mF];have e1:=rp c K F o;have e2:=HI c K F s;have e3:=λh=>add_l (h:=h) (oO N o) (D7 N s) (by have:=dD N o;have:=jZ N s;lia)
 simp only[↓bI,e1,e2,e3,bJ];rfl
theorem QD(c:Nat){N:Nm}(K:bh N)(F:List Rw)(s:Sp)(o:Op):run aM (c+12) "put_acts" [fdP N F,bJ N (.fill s o)] []=some (.ok (.lst ((bZ N (.fill s o)).map jM)),[]):=by
 rw[mF];have e1:=rp c K F o;have e2:=HI c K F s;have e3:=λh=>add_l (h:=h) (oO N o) (D7 N s) (by have:=dD N o;have:=jZ N s;lia)
 simp only[↓bI,e1,e2,e3,bJ];rfl
theorem VF(c:Nat){N:Nm}(K:bh N)(F:List Rw)(s:Sp)(g:Sg)(o p:Op):run aM (c+12) "set_acts" [fdP N F,bJ N (.set s g o p)] []=some (.ok (.lst ((bZ N (.set s g o p)).map jM)),[]):=by
 rw[vS];have e1:=rp c K F o;have e4:=rp c K F p;have e2:=HI c K F s;have l1:=dD N o;have l2:=dD N p;have l3:=jZ N s;have e3:=λh=>add_l (h:=h) (oO N o) (oO N p) (by lia)
 have e5:=λh=>add_l (h:=h) (oO N o++oO N p) (D7 N s) (by rw[bO];lia)
 simp only[↓bI,e1,e2,e3,e4,e5,bJ];rfl
theorem QE(c:Nat){N:Nm}(K:bh N)(F:List Rw)(s t:Sp):run aM (c+12) "copy_acts" [fdP N F,bJ N (.eR s t)] []=some (.ok (.lst ((bZ N (.eR s t)).map jM)),[]):=by
 rw[sF];have e1:=touch_s (c+3) K F "read" "" t;have e2:=touch_s (c+3) K F "fill" "" s;simp only[↓bI,e1,e2,bJ];rfl
theorem QF(c:Nat){N:Nm}(K:bh N)(F:List Rw)(x:N5):run aM (c+12) "move_acts" [fdP N F,bJ N (.gU x)] []=some (.ok (.lst ((bZ N (.gU x)).map jM)),[]):=by
 rw[sG];have e1:=touch_w (c+3) K F "empty" "" x;have e2:=touch_w (c+3) K F "fill" "" x;simp only[↓bI,e1,e2,bJ];rfl
theorem VG(c:Nat){N:Nm}(K:bh N)(F:List Rw)(o:Op):run aM (c+12) "say_acts" [fdP N F,bJ N (.j9 o)] []=some (.ok (.lst ((bZ N (.j9 o)).map jM)),[]):=by
 rw[vT];have e1:=rp c K F o;simp only[↓bI,e1,bJ];rfl
theorem VH(c:Nat){N:Nm}(K:bh N)(F:List Rw)(o p:Op)(k:Nat):run aM (c+12) "if_acts" [fdP N F,bJ N (.ifs o p k)] []=some (.ok (.lst ((bZ N (.ifs o p k)).map jM)),[]):=by
 rw[yi];have e1:=rp c K F o;have e4:=rp c K F p;have l1:=dD N o;have l2:=dD N p;have e3:=λh=>add_l (h:=h) (oO N o) (oO N p) (by lia)
 simp only[↓bI,e1,e3,e4,bJ];rfl
theorem ZQ(c:Nat){N:Nm}(F:List Rw)(k:Nat):run aM (c+12) "go_acts" [fdP N F,bJ N (.go k)] []=some (.ok (.lst ((bZ N (.go k)).map jM)),[]):=by
 rw[yj];simp only[↓bI];rfl
theorem QG(c:Nat){N:Nm}(F:List Rw):run aM (c+12) "give_acts" [fdP N F,bJ N .cV] []=some (.ok (.lst ((bZ N .cV).map jM)),[]):=by
 rw[sH];simp only[↓bI,bJ];rfl
end bH
set_option maxHeartbeats 4000000
namespace bH
open PySem L2 L2.U
def mkc(p:PV):Gx PV:=λst=>match p with
 | .nd .lst qs=>jy ⟨.lst,qs⟩ st
 | _=>none
theorem HJ(link:List (Option Nat))(fi:Gx BL)(bd:Bd):jD true link fi bd=bnd (jD false link fi bd) mkc:=by
 funext st
 unfold jD bnd;cases fi st with
 | none=>rfl
 | some r =>
  obtain⟨r,st1⟩:=r;cases r with
  | ok s =>
   show(BN (bd (dt link st1.ρ)) st1.h s).bind (BO true st1.ρ)=((BN (bd (dt link st1.ρ)) st1.h s).bind (BO false st1.ρ)).bind (OF mkc);cases BN (bd (dt link st1.ρ)) st1.h s<;>rfl
  | ex m C=>rfl
theorem mI{h:List aj}{n:Nat}:∀{l:List PV},ao l=true->dO (lI h n) l=some l
 | [],_=>rfl
 | p::l,hn=>by
  simp only[ao,aJ]at hn;show(lI h n p).bind (λy=>(dO (lI h n) l).map λys=>y::ys)=_
  rw[mI hn.2,show lI h n p=some p by cases n<;>(unfold lI;rw[if_pos hn.1])]
  rfl
theorem rA{ps:List PV}(h:ao ps=true):gM [⟨.lst,ps⟩] (.ref 0)=some (.lst ps):=by
 show(dO (lI _ 3) ps).map _=_;rw[mI h];rfl
theorem VI(a:Ac):noRef (jM a)=true:=by simp[jM,noRef,ao]
theorem QH(A:List Ac):ao (A.map jM)=true:=fO VI A
theorem VJ(c:Nat){N:Nm}(K:bh N)(F:List Rw)(r:Rw):run aM (c+12) (Li r) [fdP N F,bJ N r] []=some (.ok (.lst ((bZ N r).map jM)),[]):=by
 cases r with
 | put s o=>exact VE c K F s o
 | fill s o=>exact QD c K F s o
 | set s g o p=>exact VF c K F s g o p
 | eR s t=>exact QE c K F s t
 | gU x=>exact QF c K F x
 | j9 o=>exact VG c K F o
 | ifs o p k=>exact VH c K F o p k
 | go k=>exact ZQ c F k
 | cV=>exact QG c F
theorem yv(N:Nm)(r:Rw):(bZ N r).length<=6:=by
 cases r with
 | put s o=>have:=dD N o;have:=jZ N s;simp only[bZ,bO];lia
 | fill s o=>have:=dD N o;have:=jZ N s;simp only[bZ,bO];lia
 | set s g o p=>have:=dD N o;have:=dD N p;have:=jZ N s;simp only[bZ,bO];lia
 | eR s t=>simp[bZ]
 | gU x=>simp[bZ]
 | j9 o=>have:=dD N o;simp only[bZ];lia
 | ifs o p k=>have:=dD N o;have:=dD N p;simp only[bZ,bO];lia
 | go k=>simp[bZ]
 | cV=>simp[bZ]
noncomputable def we:Rw->Str
 | .put _ _=>"put"
 | .fill _ _=>"fill"
 | .set _ _ _ _=>"set"
 | .eR _ _=>"copy"
 | .gU _=>"move"
 | .j9 _=>"say"
 | .ifs _ _ _=>"if"
 | .go _=>"go"
 | .cV=>"give"
theorem Co{h:List aj}(N:Nm)(r:Rw):aZ h (bJ N r) (.int 0)=some (.str (we r)):=by cases r<;>rfl
noncomputable abbrev rsA:Ac:=⟨"rest","",false,0,0,""⟩
def HK(A:List Ac):List Ac:=if A.isEmpty then [rsA]else A
noncomputable def kf:Nat->List (List Ac)->List (Nat×Ac)
 | _,[]=>[]
 | j,A::T=>A.map (λa=>(j,a))++kf (j+1) T
def rD(z:Nat×Ac):PV:=cK z.1 z.2
theorem VL(r:Rw):(List.lookup (we r) gH)=some (Li r):=by
 cases r<;>kernel_rfl
theorem QI(r:Rw):K9.lookup (Li r)=some 2:=by cases r<;>kernel_rfl
theorem VM{ρ:List (Option PV)}{L R:List PV}(h:L.length+R.length<=1000000):ow (.ref 0) [.lst R] ⟨ρ,[⟨.lst,L⟩]⟩=some (.ok .aL,⟨ρ,[⟨.lst,L++R⟩]⟩):=by
 show(fu (dN λps _=>if ps.length+R.length<=ic then some (ps++R)else none) (.ref 0) [] ⟨ρ,[⟨.lst,L⟩]⟩)=_
 have e:(if L.length+R.length<=ic then some (L++R)else none)=some (L++R):=if_pos (aY h (by decide))
 show(((if L.length+R.length<=ic then some (L++R)else none).map λqs=>((⟨.lst,qs⟩:aj),PV.aL)).map λr=>_)=_
 rw[e];rfl
theorem D8(c:CT){N:Nm}{x0 x1:Option PV}{F:List Rw}{r:Rw}{A:List Ac}{p:PV}{h':List aj}(hA:A.length<=200)(hf:gM h' p=some (.lst (A.map jM)))(hc:c (Li r) [fdP N F,bJ N r] []=some (.ok p,h'))(k:Nat)(L:List PV)(hL:L.length<=9000)(x6:Option PV):jJ c ⟨[x0,x1,some (fdP N F),some (.ref 0),some (.int (k:Int)),some (bJ N r),x6],[⟨.lst,L⟩]⟩=some (.ok .nx,⟨[x0,x1,some (fdP N F),some (.ref 0),some (.int (k:Int)),some (bJ N r),some (.lst (A.map jM))],[⟨.lst,L++(HK A).map (cK k)⟩]⟩):=by
 have e1:∀h,aZ h (bJ N r) (.int 0)=some (.str (we r)):=λh=>Co N r
 have e3:(Pz (.str (we r))).bind (λk=>Option.map PV.fn (List.lookup k gH))=some (.fn (Li r)):=by
  show Option.map PV.fn (List.lookup (we r) gH)=_;rw[VL];rfl
 have e4:(WU (.fn (Li r))).bind (λx=>Option.map (λn=>(x,n)) (List.lookup x K9))=some (Li r,2):=by
  show Option.map (λn=>(Li r,n)) (List.lookup (Li r) K9)=_
  rw[QI];rfl
 have ll:(A.map jM).length<=4000000:=by rw[aU];lia
 cases hE:A.isEmpty with
 | true =>
  cases A with
  | cons a A=>cases hE
  | nil =>
   have e2:∀ρ,ow (.ref 0) [.lst ((some (PV.au [.int (k:Int),.str "rest",.str "",.bl false,.int 0,.int 0,.str ""])).toList++[])] ⟨ρ,[⟨.lst,L⟩]⟩=some (.ok .aL,⟨ρ,[⟨.lst,L++[.au [.int (k:Int),.str "rest",.str "",.bl false,.int 0,.int 0,.str ""]]⟩]⟩):=λρ=>VM (R:=[.au [.int (k:Int),.str "rest",.str "",.bl false,.int 0,.int 0,.str ""]]) (by simp;lia)
   have l1:[PV.au [.str "rest",.str "",.bl false,.int 0,.int 0,.str ""]].length<=4000000:=by simp
   refine bA ?_;unfold jJ;simp only[↓gk,e1,e2,e3,e4,l1,hc,hf,ao,noRef,nX,uc];rfl
 | false =>
  have ho:HK A=A:=by unfold HK;rw[hE];rfl
  rw[ho];have e2:∀ρ,ow (.ref 0) [.lst (A.map λa=>.au [.int (k:Int),.str a.w,.str a.x,.bl a.t,.int (a.f:Int),.int (a.m:Int),.str a.k])] ⟨ρ,[⟨.lst,L⟩]⟩=some (.ok .aL,⟨ρ,[⟨.lst,L++A.map (cK k)⟩]⟩):=λρ=>VM (by rw[aU];lia)
  have e5:∀h a,gh h (.au [.int (k:Int)]) (jM a)=some (.au [.int (k:Int),.str a.w,.str a.x,.bl a.t,.int (a.f:Int),.int (a.m:Int),.str a.k]):=λh a=>rfl
  refine bA ?_;unfold jJ;simp only[↓gk,e1,e2,e3,e4,e5,hc,hf,ll,ao,noRef,nX,uc,List.isEmpty_map,hE,uO]
def lB(N:Nm)(rs:List Rw):List (List Ac):=rs.map λr=>HK (bZ N r)
theorem Cp{A:List Ac}(h:A.length<=6):(HK A).length<=6:=by
 unfold HK;split
 ·simp
 ·exact h
theorem ue(c:Nat){N:Nm}(K:bh N){x0 x1:Option PV}{F:List Rw}:∀(rs:List Rw) (k:Nat) (L:List PV) (x4 x5 x6:Option PV),L.length+6*rs.length<=9000->∃(x4' x5' x6':Option PV),fS Q0 (jJ (run aM (c+12))) (kq k (rs.map (bJ N))) ⟨[x0,x1,some (fdP N F),some (.ref 0),x4,x5,x6],[⟨.lst,L⟩]⟩=some (.ok .nx,⟨[x0,x1,some (fdP N F),some (.ref 0),x4',x5',x6'],[⟨.lst,L++(kf k (lB N rs)).map rD⟩]⟩)
 | [],k,L,x4,x5,x6,_=>⟨x4,x5,x6,by simp[kf,lB];rfl⟩
 | r::rs,k,L,x4,x5,x6,hl=>by
  simp only[cq]at hl;have a4:=VJ c K F r;have a3:gM [] (.lst ((bZ N r).map jM))=some (.lst ((bZ N r).map jM)):=Hw (wa (QH _));have a2:=yv N r;have lo:=Cp a2;have st:=D8 (run aM (c+12)) (x0:=x0) (x1:=x1) (F:=F) (by lia) a3 a4 k L (by lia) x6
  obtain⟨z4,z5,z6,t3⟩:=ue c K (x0:=x0) (x1:=x1) (F:=F) rs (k+1) (L++(HK (bZ N r)).map (cK k)) (some (.int (k:Int))) (some (bJ N r)) (some (.lst ((bZ N r).map jM))) (by rw[bO,aU];lia)
  refine⟨z4,z5,z6,?_⟩;rw[show L++(kf k (lB N (r::rs))).map rD=L++(HK (bZ N r)).map (cK k)++(kf (k+1) (lB N rs)).map rD by simp[lB,kf,rD,pC]]
  exact fC (s1:=⟨[x0,x1,some (fdP N F),some (.ref 0),some (.int (k:Int)),some (bJ N r),x6],[⟨.lst,L⟩]⟩) rfl st t3
theorem QJ(c:Nat){N:Nm}(K:bh N)(F:List Rw)(hl:F.length<=100):∃p h',gM h' p=some (.lst ((kf 0 (lB N F)).map rD))/\run aM (c+13) "acts" [.au [fdP N F],.int 0] []=some (.ok p,h'):=by
 refine⟨.ref 0,[⟨.lst,(kf 0 (lB N F)).map rD⟩],rA (fO (λz=>by simp[rD,cK,noRef,ao]) _),?_⟩
 have e1:aZ [] (.au [fdP N F]) (.int 0)=some (fdP N F):=rfl;obtain⟨z4,z5,z6,t3⟩:=ue c K (x0:=some (.au [fdP N F])) (x1:=some (.int 0)) (F:=F) F 0 [] none none none (by simp;lia)
 rw[Hz];unfold Hy;simp only[↓bI,e1,t3,dH]
end bH
set_option maxHeartbeats 2000000
namespace bH
open PySem L2 L2.U
noncomputable def bE(T:List (List PV)):List aj:=T.map λl=>⟨.lst,l⟩
noncomputable def dE:Nat->Nat->List PV
 | _,0=>[]
 | b,n+1=>.ref b::dE (b+1) n
theorem yw:∀(n b i:Nat),i<n->(dE b n)[i]?=some (.ref (b+i))
 | n+1,b,0,_=>rfl
 | n+1,b,i+1,h=>by
  show(dE (b+1) n)[i]?=_;rw[yw n (b+1) i (by lia)]
  congr 2
  lia
theorem Cq{L:List PV}{ρ:List (Option PV)}:∀(ps:List PV) (h:List aj),fy Q3 ps h=some (dE h.length ps.length,h++List.replicate ps.length ⟨.lst,[]⟩)
 | [],h=>by simp[fy,dE]
 | p::ps,h=>by
  have e:ox (dh 1) (Di (cA [])) [none,none] p h=some (some (.ref h.length),h++[⟨.lst,[]⟩]):=rfl;rw[rk e (Cq (L:=L) (ρ:=ρ) ps _)];simp[dE,gA]
def wj(T:List (List PV))(z:Nat×Ac):List (List PV):=if z.2.w="rest" then T else T.set z.1 (T.getD z.1 []++[rD z])
theorem wo{h:List aj}{n:Nat}{L:List PV}{v:PV}{ρ:List (Option PV)}(e:h[n]?=some ⟨.lst,L⟩)(hl:L.length<=4000):fu (dN fw) (.ref n) [v] ⟨ρ,h⟩=some (.ok .aL,⟨ρ,h.set n ⟨.lst,L++[v]⟩⟩):=by
 have:fw L [v]=some (L++[v]):=if_pos (show L.length<ic from pA hl (by decide))
 show((i9 h (.ref n)).bind λc=>(dN fw c.2 [v]).map λr=>_)=_
 rw[dC e rfl];show(((fw L [v]).map λqs=>((⟨.lst,qs⟩:aj),PV.aL)).map λr=>_)=_
 rw[this];rfl
theorem rE(c:CT){x0 x1:Option PV}:∀(Z:List (Nat×Ac)) (T:List (List PV)) (g:List aj) (x3:Option PV) (m:Nat),T.length=m->(∀z∈Z,z.1<m)->(∀l∈T,l.length+Z.length<=4000) ->
  ∃y3,fS (dh 3) (eA c) (Z.map rD) ⟨[x0,x1,some (.ref m),x3],bE T++⟨.lst,dE 0 m⟩::g⟩=some (.ok .nx,⟨[x0,x1,some (.ref m),y3],bE (Z.foldl wj T)++⟨.lst,dE 0 m⟩::g⟩)
 | [],T,g,x3,m,_,_,_=>⟨x3,rfl⟩
 | z::Z,T,g,x3,m,hT,hz,hl=>by
  have hm:=hz z dw;have h1:(bE T++⟨.lst,dE 0 m⟩::g)[m]?=some ⟨.lst,dE 0 m⟩:=by
   rw[kA (by simp[bE,hT])]
   simp[bE,hT]
  have h2:(bE T++⟨.lst,dE 0 m⟩::g)[z.1]?=some ⟨.lst,T.getD z.1 []⟩:=by
   rw[gz (by simp[bE,hT];exact hm)]
   simp only[bE,cQ,kz];rw[eE (by rw[hT];exact hm)]
   rfl
  have hlz:(T.getD z.1 []).length+Z.length+1<=4000:=by
   have:=hl (T.getD z.1 []) (by rw[kz,eE (by rw[hT];exact hm)];exact List.getElem_mem _)
   rw[cq]at this;lia
  have e1:aZ (bE T++⟨.lst,dE 0 m⟩::g) (.ref m) (.int (z.1:Int))=some (.ref z.1):=by
   have d:=ak h1 rfl;simp only[aZ,d];exact atI_nat (by rw[yw m 0 z.1 hm,uS])
  have d2:=ak h2 rfl;have e0:∀h,aZ h (rD z) (.int 0)=some (.int (z.1:Int)):=λh=>rfl
  have e2:=λρ=>wo (ρ:=ρ) (v:=rD z) h2 (by lia)
  have e3:∀h,aZ h (rD z) (.int 1)=some (.str z.2.w):=λh=>rfl
  have e4:∀h,J3 h (.str z.2.w) (.str "rest")=some (.bl (!(z.2.w=="rest"))):=λh=>rfl
  have hs:(bE T++⟨.lst,dE 0 m⟩::g).set z.1 ⟨.lst,T.getD z.1 []++[rD z]⟩=bE (T.set z.1 (T.getD z.1 []++[rD z]))++⟨.lst,dE 0 m⟩::g:=by
   rw[List.set_append_left _ _ (by simp[bE,hT];exact hm)]
   simp[bE,List.map_set]
  by_cases hw:z.2.w="rest"
  ·obtain⟨y3,ih⟩:=rE c (x0:=x0) (x1:=x1) Z T g (some (rD z)) m hT (λy hy=>hz y (cG _ hy)) (λl h=>by have:=hl l h;simp at this;lia)
   refine⟨y3,?_⟩;have hp:wj T z=T:=if_pos hw;rw[kR,hp,aQ];have hq:(z.2.w=="rest")=true:=by rw[hw];rfl
   refine fC (s1:=⟨[x0,x1,some (.ref m),some (rD z)],_⟩) rfl ?_ ih;refine bA ?_
   delta eA gq
   simp only[↓gk,e3,e4,hq,iz]
  ·have hp:wj T z=T.set z.1 (T.getD z.1 []++[rD z]):=if_neg hw;obtain⟨y3,ih⟩:=rE c (x0:=x0) (x1:=x1) Z (T.set z.1 (T.getD z.1 []++[rD z])) g (some (rD z)) m (by simp[hT]) (λy hy=>hz y (cG _ hy)) (λl h=>by
    rcases List.mem_or_eq_of_mem_set h with h | rfl
    ·have:=hl l h;simp at this;lia
    ·rw[bO];simp only[cq,mX];lia)
   refine⟨y3,?_⟩;rw[kR,hp,aQ];have hq:(z.2.w=="rest")=false:=hZ.mpr hw;refine fC (s1:=⟨[x0,x1,some (.ref m),some (rD z)],_⟩) rfl ?_ ih;refine bA ?_
   delta eA gq
   rw[<-hs];simp only[↓gk,d2,e0,e1,e2,e3,e4,hq,uO]
end bH
set_option maxHeartbeats 2000000
namespace bH
open PySem L2 L2.U
def yM(N:Nm):Nat->List Rw->List (List PV)
 | _,[]=>[]
 | k,r::rs=>(bZ N r).map (cK k)::yM N (k+1) rs
theorem Cr(N:Nm):∀(rs:List Rw) (k:Nat),(yM N k rs).length=rs.length
 | [],_=>rfl
 | r::rs,k=>by show(yM N (k+1) rs).length+1=_;rw[Cr];rfl
theorem HL(N:Nm):∀(rs:List Rw) (k i:Nat) (r:Rw),rs[i]?=some r->(yM N k rs)[i]?=some ((bZ N r).map (cK (k+i)))
 | r::rs,k,0,q,e=>by cases e;rfl
 | r::rs,k,i+1,q,e=>by
  show(yM N (k+1) rs)[i]?=_;rw[HL N rs (k+1) i q (by simpa using e)]
  congr 3
  lia
 | [],_,_,_,e=>by simp at e
theorem yx(k:Nat):∀(A:List Ac) (pre:List (List PV)) (l:List PV) (rest:List (List PV)),pre.length=k->(∀a∈A,a.w≠"rest")->(A.map (λa=>(k,a))).foldl wj (pre++l::rest)=pre++(l++A.map (cK k))::rest
 | [],pre,l,rest,_,_=>by simp
 | a::A,pre,l,rest,hk,ha=>by
  have e:wj (pre++l::rest) (k,a)=pre++(l++[cK k a])::rest:=by
   unfold wj;rw[if_neg (ha a dw)];simp only[kz];rw[kA (by lia),List.set_append_right _ _ (by lia),hk]
   simp[rD]
  rw[aQ,kR,e,yx k A pre _ rest hk λb hb=>ha b (cG _ hb)]
  simp
theorem D9(N:Nm)(r:Rw):∀a∈bZ N r,a.w≠"rest":=by
 have ZR:∀s,∀a∈rX N s,a.w="read":=λs a h=>by
  cases s
  case i x=>cases x<;>simp[rX,M9]at h<;>(subst h;rfl)
  case j x=>cases x<;>simp[rX,M9]at h<;>(subst h;rfl)
  all_goals cases h
 have hop:∀o,∀a∈oO N o,a.w="read":=λo a h=>by
  cases o with
  | num i=>cases h
  | sp s =>
   rcases cR.mp h with h | h
   ·exact ZR s a h
   ·rw[bz.mp h];rfl
 have ZT:∀s,∀a∈D7 N s,a.w≠"rest":=λs a h=>by
  cases s
  case i x =>
   rcases cR.mp h with h | h
   ·rw[ZR _ a h];decide
   ·rw[bz.mp h];show("turn":Str)≠"rest";decide
  case j x =>
   rcases cR.mp h with h | h
   ·rw[ZR _ a h];decide
   ·rw[bz.mp h];show("turn":Str)≠"rest";decide
  all_goals (rw[bz.mp h];show("fill":Str)≠"rest";decide)
 have En:∀o,∀a∈oO N o,a.w≠"rest":=λo a h=>by rw[hop o a h];decide
 intro a h;cases r with
 | put s o =>
  rcases cR.mp h with h | h
  ·exact En o a h
  ·exact ZT s a h
 | fill s o =>
  rcases cR.mp h with h | h
  ·exact En o a h
  ·exact ZT s a h
 | set s g o p =>
  rcases cR.mp h with h | h
  ·rcases cR.mp h with h | h
   ·exact En o a h
   ·exact En p a h
  ·exact ZT s a h
 | eR s t =>
  rcases aC.mp h with rfl | h
  ·show("read":Str)≠"rest";decide
  ·rw[bz.mp h];show("fill":Str)≠"rest";decide
 | gU x =>
  rcases aC.mp h with rfl | h
  ·show("empty":Str)≠"rest";decide
  ·rw[bz.mp h];show("fill":Str)≠"rest";decide
 | j9 o=>exact En o a h
 | ifs o p k =>
  rcases cR.mp h with h | h
  ·exact En o a h
  ·exact En p a h
 | go k=>cases h
 | cV=>cases h
theorem uf(N:Nm):∀(rs:List Rw) (k:Nat) (pre:List (List PV)),pre.length=k->(kf k (lB N rs)).foldl wj (pre++List.replicate rs.length [])=pre++yM N k rs
 | [],k,pre,_=>by simp[lB,kf,yM]
 | r::rs,k,pre,hk=>by
  show((HK (bZ N r)).map (λa=>(k,a))++kf (k+1) (lB N rs)).foldl wj (pre++List.replicate (rs.length+1) [])=pre++(bZ N r).map (cK k)::yM N (k+1) rs
  rw[List.foldl_append,gA];have e:((HK (bZ N r)).map (λa=>(k,a))).foldl wj (pre++[]::List.replicate rs.length [])=pre++(bZ N r).map (cK k)::List.replicate rs.length []:=by
   unfold HK;cases h:(bZ N r).isEmpty with
   | true =>
    rw[zx.mp h];rfl
   | false =>
    have:=yx k (bZ N r) pre [] (List.replicate rs.length []) hk (D9 N r);simpa using this
  rw[e];have:=uf N rs (k+1) (pre++[(bZ N r).map (cK k)]) (by simp[hk])
  simpa using this
noncomputable def Dx(N:Nm)(rs:List Rw):PV:=.lst ((yM N 0 rs).map .lst)
theorem HM:∀(T:List (List Ac)) (k:Nat),∀z∈kf k T,z.1<k+T.length
 | [],_,z,h=>by cases h
 | A::T,k,z,h=>by
  rcases cR.mp h with h | h
  ·obtain⟨a,_,rfl⟩:=bX.mp h;show k<_;simp
  ·have:=HM T (k+1) z h;simp only[cq];lia
theorem Cs:∀(T:List (List Ac)) (k:Nat),(∀A∈T,A.length<=6)->(kf k T).length<=6*T.length
 | [],_,_=>by simp[kf]
 | A::T,k,h=>by
  have h1:=h A dw;have h2:=Cs T (k+1) λB hB=>h B (cG _ hB)
  simp only[kf,bO,aU,cq]
  lia
theorem yy(T:List (List PV))(g:List aj)(hT:∀l∈T,ao l=true):∀(n b:Nat),b+n=T.length->dO (lI (bE T++g) 3) (dE b n)=some ((T.drop b).map .lst)
 | 0,b,hb=>by rw[show T.drop b=[]from List.drop_eq_nil_of_le (by lia)];rfl
 | n+1,b,hb=>by
  have qE:b<T.length:=by lia
  have h1:(bE T++g)[b]?=some ⟨.lst,T[b]⟩:=by
   rw[gz (by simp[bE];exact qE)]
   simp[bE,qE]
  have e1:lI (bE T++g) 3 (.ref b)=some (.lst T[b]):=by
   show(((bE T++g)[b]?).bind λc=>if live c=true then(dO (lI (bE T++g) 2) c.ps).map (PV.nd c.k)else none)=_
   rw[h1];show(dO (lI (bE T++g) 2) T[b]).map (PV.nd Kd.lst)=_;rw[mI (hT _ (List.getElem_mem _))];rfl
  show(lI (bE T++g) 3 (.ref b)).bind (λy=>(dO (lI (bE T++g) 3) (dE (b+1) n)).map λys=>y::ys)=_
  rw[e1,yy T g hT n (b+1) (by lia)]
  rw[yP qE];rfl
theorem HN(c:Nat){N:Nm}(K:bh N)(F:List Rw)(hl:F.length<=100):∃p h',gM h' p=some (Dx N F)/\run aM (c+14) "acts_by_row" [.au [fdP N F],.int 0] []=some (.ok p,h'):=by
 have nk:∀z,noRef (rD z)=true:=λz=>by simp[rD,cK,noRef,ao]
 have nl:∀(rs:List Rw) (k:Nat),∀l∈yM N k rs,ao l=true:=λrs=>by
  induction rs with
  | nil=>intro k l h;cases h
  | cons r rs ih =>
   intro k l h;rcases aC.mp h with rfl | h
   ·exact fO (λa=>nk (k,a)) _
   ·exact ih (k+1) l h
 refine⟨.ref F.length,bE (yM N 0 F)++[⟨.lst,dE 0 F.length⟩],?_,?_⟩
 ·have hT:=Cr N F 0;have h1:(bE (yM N 0 F)++[⟨.lst,dE 0 F.length⟩])[F.length]?=some ⟨.lst,dE 0 F.length⟩:=by
   rw[kA (by simp[bE,hT])]
   simp[bE,hT]
  unfold gM;rw[if_neg (by simp)]
  show(((bE (yM N 0 F)++[⟨.lst,dE 0 F.length⟩])[F.length]?).bind λc=>if live c=true then(dO (lI (bE (yM N 0 F)++[⟨.lst,dE 0 F.length⟩]) 3) c.ps).map (PV.nd c.k)else none)=_
  rw[h1];show(dO (lI (bE (yM N 0 F)++[⟨.lst,dE 0 F.length⟩]) 3) (dE 0 F.length)).map (PV.nd .lst)=_;rw[yy (yM N 0 F) _ (nl F 0) F.length 0 (by lia)]
  rfl
 ·have e1:∀h,aZ h (.au [fdP N F]) (.int 0)=some (fdP N F):=λh=>rfl
  have e2:∀h,aZ h (fdP N F) (.int 4)=some (.au (F.map (bJ N))):=λh=>rfl
  obtain⟨p,h',f1,f2⟩:=QJ c K F hl;have e3:(F.map (bJ N)).length<=4000000:=by rw[aU];lia
  have e4:fy Q3 (F.map (bJ N)) []=some (dE 0 F.length,bE (List.replicate F.length [])):=by
   rw[Cq (L:=[]) (ρ:=[])];simp[bE]
  have e5:(bE (List.replicate F.length [])).length=F.length:=by simp[bE]
  have e6:ao [PV.nd .au [fdP N F],PV.int 0]=true:=by simp[ao,noRef,fO,nX]
  obtain⟨y3,hL⟩:=rE (run aM (c+13)) (x0:=some (.au [fdP N F])) (x1:=some (.int 0)) (kf 0 (lB N F)) (List.replicate F.length []) [] none F.length (by simp) (λz hz=>by have:=HM _ _ z hz;simpa[lB]using this) (λl h=>by
   rw[kB h];have:=Cs (lB N F) 0 λA hA=>by
    obtain⟨r,h1,rfl⟩:=bX.mp hA;exact Cp (yv N r)
   simp only[lB,aU]at this;simp only[mX,lB];lia)
  have hf:=uf N F 0 [] rfl;rw[dH,dH]at hf;rw[hf]at hL;rw[oJ];rw[HJ]
  delta eA gq at hL
  simp only[↓bI,e1,e2,e3,e4,e5,e6,f1,f2,hL,cE,cD]
end bH
set_option maxHeartbeats 4000000
namespace bH
open PySem L2 L2.U
theorem jN{h:List aj}{i:Nat}{C:Str}{ns:List Str}{ps:List PV}(e:h[i]?=some ⟨.ins C ns,ps⟩):qR h (.ref i) C=true:=by
 unfold qR;rw[dC e rfl];exact f7 C
theorem QK{h:List aj}{nb nt:Int}(e:h[0]?=some (je nb nt)):vK "boxes_made" (.ref 0) h=some (("Boxes":Str),PV.int nb):=by
 unfold vK;rw[ak e rfl];rfl
theorem QL{h:List aj}{nb nt:Int}(e:h[0]?=some (je nb nt)):vK "tags_made" (.ref 0) h=some (("Boxes":Str),PV.int nt):=by
 unfold vK;rw[ak e rfl];rfl
theorem QM{h:List aj}{nb nt y:Int}{ρ:List (Option PV)}(e:h[0]?=some (je nb nt)):ee eL eM "boxes_made" (.ref 0) (.int y) ⟨ρ,h⟩=some ⟨ρ,h.set 0 (je y nt)⟩:=by
 rw[eu e (by kernel_rfl)]
 rfl
theorem QN{h:List aj}{nb nt y:Int}{ρ:List (Option PV)}(e:h[0]?=some (je nb nt)):ee eL eM "tags_made" (.ref 0) (.int y) ⟨ρ,h⟩=some ⟨ρ,h.set 0 (je nb y)⟩:=by
 rw[eu e (by kernel_rfl)]
 rfl
theorem QO(k:Nat){g:List aj}{m t:Int}{v:PV}:DT (run aM k) "Box" [.ref g.length,.int m,.int t,v] (g++[⟨.ins "Box" [],[]⟩])=some (.ok .aL,g++[jd m t v]):=by
 rw[Qv];have e1:∀ρ,ee eL eM "number" (.ref g.length) (.int m) ⟨ρ,g++[⟨.ins "Box" [],[]⟩]⟩=some ⟨ρ,g++[⟨.ins "Box" ["number"],[.int m]⟩]⟩:=λρ=>fY (by kernel_rfl)
 have e2:∀ρ,ee eL eM "pile" (.ref g.length) (.lst [.au [.int t,.str "own"]]) ⟨ρ,g++[⟨.ins "Box" ["number"],[.int m]⟩]⟩=some ⟨ρ,g++[⟨.ins "Box" ["number","pile"],[.int m,ef t]⟩]⟩:=λρ=>fY (by kernel_rfl)
 have e3:∀ρ,ee eL eM "value" (.ref g.length) v ⟨ρ,g++[⟨.ins "Box" ["number","pile"],[.int m,ef t]⟩]⟩=some ⟨ρ,g++[jd m t v]⟩:=λρ=>fY (by kernel_rfl)
 simp only[↓bI,e1,e2,e3]
theorem Lj(k:Nat){g:List aj}{Q:List PV}{t:Int}:DT (run aM k) "Grip" [.ref g.length,.lst Q,.int t] (g++[⟨.ins "Grip" [],[]⟩])=some (.ok .aL,g++[IH Q t]):=by
 rw[La];have e1:∀ρ,ee eL eM "boxes" (.ref g.length) (.lst Q) ⟨ρ,g++[⟨.ins "Grip" [],[]⟩]⟩=some ⟨ρ,g++[⟨.ins "Grip" ["boxes"],[.lst Q]⟩]⟩:=λρ=>fY (by kernel_rfl)
 have e2:∀ρ,ee eL eM "tag" (.ref g.length) (.int t) ⟨ρ,g++[⟨.ins "Grip" ["boxes"],[.lst Q]⟩]⟩=some ⟨ρ,g++[IH Q t]⟩:=λρ=>fY (by kernel_rfl)
 simp only[↓bI,e1,e2]
theorem HP(c:Nat){g:List aj}{n:Nat}{j t:Int}{v:PV}(W:Wd g (n+1)):∃h' m,run aM (c+1) "Boxes.new_box" [.ref 0,.int j,.int t,v] g=some (.ok (.ref g.length),h')/\h'.length=g.length+1/\Ch g h' [0,1]/\Wd h' n/\h'[g.length]?=some (jd m t v):=by
 have⟨nb,nt,es,h0,h1,hk⟩:=W;have e1:=QO c (g:=g) (m:=nb) (t:=t) (v:=v);have a0:(g++[jd nb t v])[0]?=some (je nb nt):=bK h0;have d0:=ak h0 rfl;have i0:=jN a0;have f0:=QK a0;have s0:=λρ=>QM (ρ:=ρ) (y:=nb+1) a0
 have l1:=dZ h1;obtain⟨g1,nW⟩:∃g1,g1=(g++[jd nb t v]).set 0 (je (nb+1) nt):=⟨_,rfl⟩
 rw[<-nW]at s0;have c1:Ch (g++[jd nb t v]) g1 [0]:=by rw[nW];exact Ch.set _
 have b0:g1[0]?=some (je (nb+1) nt):=by rw[nW];exact cz a0
 have b1:=c1.get (bK (g:=[jd nb t v]) h1) (by simp)
 have bb:g1[g.length]?=some (jd nb t v):=c1.get dv (by intro z;rw[bz]at z;lia)
 have ZU:=ak b0 rfl;have QA:=ak b1 rfl;have dbb:=ak bb rfl;have ap:=λρ v=>eZ (ρ:=ρ) (v:=v) b1 (by lia)
 have ad:∀h,AF h (.int nb) (.int 1)=some (.int (nb+1)):=λh=>rfl
 refine⟨g1.set 1 ⟨.lst,es++[.au [.int j,.int (-1),.str "own",.int nb,.int t,.int (-1)]]⟩,nb,?_,?_,?_,?_,?_⟩
 ·rw[mE];simp only[↓bI,e1,d0,i0,f0,s0,ZU,QA,dbb,ap,ad]
 ·rw[gB,nW,gB,bO];rfl
 ·exact(((Ch.app g _ [0,1]).tr c1 (by simp))).tr (Ch.set _) (by simp)
 ·exact⟨nb+1,nt,_,by rw[bW (by decide),b0],cz b1,by rw[bO];show es.length+1+n<=_;lia⟩
 ·rw[bW (by lia),bb]
noncomputable def dF:Nat->List PV->Pl
 | _,[]=>[]
 | n,v::vs=>(n,v)::dF (n+1) vs
theorem yz(c:Nat){j t:Int}:∀(vs:List PV) (g:List aj) (n:Nat),Wd g (n+vs.length)->∃h',fy (ox (dh 1) (yb [("Boxes","Boxes.new_box",4)] (run aM (c+1)) "new_box" (rd 3) Q2) [none,none,some (.int j),some (.ref 0),some (.int t)]) vs g=some ((dF g.length vs).map λx=>.ref x.1,h')/\h'.length=g.length+vs.length/\Ch g h' [0,1]/\Wd h' n/\∀x∈dF g.length vs,∃m,h'[x.1]?=some (jd m t x.2)
 | [],g,n,W=>⟨g,rfl,rfl,Ch.refl _ _,W,λx hx=>by cases hx⟩
 | v::vs,g,n,W=>by
  rw[cq]at W;obtain⟨h1,m,e1,l1,c1,w1,b1⟩:=HP c (j:=j) (t:=t) (v:=v) (n:=n+vs.length) (W.mono (by lia))
  have⟨nb,nt,es,h0,Yz,hk⟩:=W;have mt:=λL=>iL (L:=L) (m:="new_box") h0 (by kernel_rfl)
  obtain⟨h2,e2,l2,c2,w2,b2⟩:=yz c (j:=j) (t:=t) vs h1 n w1;have bd:ox (dh 1) (yb [("Boxes","Boxes.new_box",4)] (run aM (c+1)) "new_box" (rd 3) Q2) [none,none,some (.int j),some (.ref 0),some (.int t)] v g=some (some (.ref g.length),h1):=by
   refine Qx (st1:=⟨[none,some v,some (.int j),some (.ref 0),some (.int t)],g⟩) (Qu:=[none,some v,some (.int j),some (.ref 0),some (.int t)]) rfl ?_;refine bA ?_;simp only[↓gk,e1,mt]
  refine⟨h2,?_,by rw[l2,l1,cq];lia,c1.tr c2 (λ_ h _=>h),w2,?_⟩
  ·rw[rk bd e2,l1];rfl
  ·intro x hx;rcases aC.mp hx with rfl | hx
   ·have:=dZ Yz;exact⟨m,c2.get b1 (by intro z;simp only[aC,bB,bD]at z;lia)⟩
   ·rw[l1]at b2;exact b2 x hx
theorem Ct(c:Nat){g:List aj}{n:Nat}{j:Int}{vs:List PV}(hv:vs.length<=2)(W:Wd g (n+2)):∃h',run aM (c+2) "Boxes.owned" [.ref 0,.int j,.lst vs] g=some (.ok (.ref (g.length+vs.length)),h')/\h'.length=g.length+vs.length+1/\Ch g h' [0,1]/\Wd h' n/\wN h' (g.length+vs.length) (dF g.length vs):=by
 have⟨nb,nt,es,h0,h1,hk⟩:=W;have mt:=λL=>iL (L:=L) (m:="new_tag") h0 (by kernel_rfl)
 have i0:=jN h0;have f0:=QL h0;have s0:=λρ=>QN (ρ:=ρ) (y:=nt+1) h0
 obtain⟨g1,nW⟩:∃g1,g1=g.set 0 (je nb (nt+1)):=⟨_,rfl⟩
 rw[<-nW]at s0;have b0:g1[0]?=some (je nb (nt+1)):=by rw[nW];exact cz h0
 have c1:Ch g g1 [0]:=by rw[nW];exact Ch.set _
 have gl:g1.length=g.length:=by rw[nW,gB]
 have ZU:=ak b0 rfl;have ad:∀h,AF h (.int nt) (.int 1)=some (.int (nt+1)):=λh=>rfl
 have su:∀h,OU h (.int (nt+1)) (.int 1)=some (.int nt):=λh=>by show some (PV.int (nt+1-1))=_;rw[Int.add_sub_cancel]
 have e1:run aM (c+1) "Boxes.new_tag" [.ref 0] g=some (.ok (.int nt),g1):=by
  rw[mD];simp only[↓bI,i0,f0,s0,ZU,ad,su]
 have W1:Wd g1 (n+vs.length):=⟨nb,nt+1,es,b0,c1.get h1 (by simp),by lia⟩
 obtain⟨h2,e2,l2,c2,w2,b2⟩:=yz c (j:=j) (t:=nt) vs g1 n W1;have e3:=Lj (c+1) (g:=h2) (Q:=ly (dF g1.length vs)) (t:=nt);have l3:vs.length<=4000000:=aY hv (by decide)
 rw[gl]at e2 b2 l2 e3;refine⟨h2++[IH (ly (dF g.length vs)) nt],?_,by rw[bO,l2];rfl,((c1.mono (by simp)).tr c2 (λ_ h _=>h)).tr (Ch.app _ _ []) (by simp),w2.ch (Ch.app _ _ []) (by simp),nt,?_,λx hx=>?_⟩
 ·rw[l2]at e3;have e3:DT (run aM (c+1)) "Grip" [.ref (g.length+vs.length),.lst ((dF g.length vs).map λx=>.ref x.1),.int nt] (h2++[⟨.ins "Grip" [],[]⟩])=some (.ok .aL,h2++[IH (ly (dF g.length vs)) nt]):=e3
  rw[oE];simp only[↓bI,e1,e2,e3,mt,l2,l3]
 ·rw[<-l2];exact dv
 ·obtain⟨m,hm⟩:=b2 x hx;exact⟨m,bK hm⟩
end bH
set_option maxHeartbeats 4000000
namespace bH
open PySem L2 L2.U
noncomputable def nL:N5->Nat
 | .e=>2
 | _=>1
theorem HQ(c:Nat)(N:Nm)(x:N5):∃p h' q,run aM (c+2) "leaves" [kr N x] []=some (.ok p,h')/\gM h' p=some q/\∀h,jw h [q]=some (.int (nL x:Int)):=by
 cases x with
 | e =>
  have e1:run aM (c+1) "leaves" [.au [.str "strip",.int (N.y:Int)]] []=some (.ok (.au [.au [.str "strip",.int (N.y:Int)]]),[]):=by
   rw[eN];simp only[↓bI]
  have e2:run aM (c+1) "leaves" [.au [.str "num"]] []=some (.ok (.au [.au [.str "num"]]),[]):=by
   rw[eN];simp only[↓bI]
  have i0:∀h,aZ h (kr N .e) (.int 0)=some (.str "rec"):=λh=>rfl
  have i1:∀h,aZ h (kr N .e) (.int 1)=some (.au [.au [.str "num"],.au [.str "strip",.int (N.y:Int)]]):=λh=>rfl
  have x1:∀ρ a,ow (.ref 0) [.au [a]] ⟨ρ,[⟨.lst,[]⟩]⟩=some (.ok .aL,⟨ρ,[⟨.lst,[a]⟩]⟩):=λρ a=>rfl
  have x2:∀ρ a b,ow (.ref 0) [.au [b]] ⟨ρ,[⟨.lst,[a]⟩]⟩=some (.ok .aL,⟨ρ,[⟨.lst,[a,b]⟩]⟩):=λρ a b=>rfl
  refine⟨.au [.au [.str "num"],.au [.str "strip",.int (N.y:Int)]],[⟨.lst,[.au [.str "num"],.au [.str "strip",.int (N.y:Int)]]⟩],.au [.au [.str "num"],.au [.str "strip",.int (N.y:Int)]],?_,rfl,λh=>rfl⟩
  rw[eN];simp only[↓bI,e1,e2,i0,i1,x1,x2]
 | a=>exact⟨.au [kr N .a],[],.au [kr N .a],by rw[eN];simp only[↓bI,kr,yq],rfl,λh=>rfl⟩
 | b=>exact⟨.au [kr N .b],[],.au [kr N .b],by rw[eN];simp only[↓bI,kr,yq],rfl,λh=>rfl⟩
 | c=>exact⟨.au [kr N .c],[],.au [kr N .c],by rw[eN];simp only[↓bI,kr,yr],rfl,λh=>rfl⟩
 | d=>exact⟨.au [kr N .d],[],.au [kr N .d],by rw[eN];simp only[↓bI,kr],rfl,λh=>rfl⟩
theorem Cu(c:Nat){g:List aj}{n:Nat}{j:Int}(N:Nm)(x:N5)(W:Wd g (n+2)):∃h',run aM (c+4) "Boxes.let" [.ref 0,.int j,kr N x] g=some (.ok (.ref (g.length+nL x)),h')/\h'.length=g.length+nL x+1/\Ch g h' [0,1]/\Wd h' n/\wN h' (g.length+nL x) (dF g.length (List.replicate (nL x) .aL)):=by
 obtain⟨p,hp,q,e1,e2,e3⟩:=HQ (c+1) N x;have⟨nb,nt,es,h0,h1,hk⟩:=W;have mt:=λL=>iL (L:=L) (m:="owned") h0 (by kernel_rfl)
 have hE:=fj h0;have ih:=g8 (c+2) N x;obtain⟨h',o1,o2,o3,o4,o5⟩:=Ct (c+1) (j:=j) (vs:=List.replicate (nL x) .aL) (by cases x<;>simp[nL]) W
 rw[jh]at o1 o2 o5;have mu:∀h,jG h (.lst [.aL]) (.int (nL x:Int))=some (.lst (List.replicate (nL x) .aL)):=λh=>by cases x<;>rfl
 refine⟨h',?_,o2,o3,o4,o5⟩;have nr:ao [kr N x]=true:=by simp[ao,yu]
 rw[sE];simp only[↓bI,e1,e2,e3,mt,ih,o1,mu,hE,nr,yu,ao,noRef,cE,cD,pQ]
abbrev Cv(es:List (Str×PV)):aj:=⟨.eQ false (es.map λe=>mH e.1),es.map (·.2)⟩
theorem Lk{x:Str}{ys:List Str}(h:∀y∈ys,y≠x):mj (mH x) (ys.map mH)=false:=by
 unfold mj;rw[zj];intro k hk;obtain⟨y,hy,rfl⟩:=bX.mp hk;have:mH y≠mH x:=λz=>h y hy (by unfold mH at z;injection z with z1 _;injection z1)
 simp[this]
theorem Ll{h:List aj}{d:Nat}{es:List (Str×PV)}{x:Str}{v:PV}{ρ:List (Option PV)}(e:h[d]?=some (Cv es))(hl:es.length<100)(hd:∀e∈es,e.1≠x) :
  nH (.ref d) (.str x) v ⟨ρ,h⟩=some ⟨ρ,h.set d (Cv (es++[(x,v)]))⟩:=by
 have hn:=Lk (x:=x) (ys:=es.map (·.1)) (λy hy=>by obtain⟨e,he,rfl⟩:=bX.mp hy;exact hd e he)
 rw[jn]at hn;show((i9 h (.ref d)).bind λc=>match c.2.k with
  | .lst=>(nC (.str x)).bind λi=>(Dc c.2.ps.length i).map λj=>(⟨ρ,h.set c.1 ⟨.lst,c.2.ps.set j v⟩⟩:bY)
  | .eQ t mQ=>(fU t (.str x)).bind λk=>if mQ.length<ic then some ⟨ρ,h.set c.1 (iH t k v mQ c.2.ps)⟩else none
  | _=>none)=_
 rw[dC e rfl];show(if(es.map λe=>mH e.1).length<ic then some (⟨ρ,h.set d (iH false (mH x) v (es.map λe=>mH e.1) (es.map (·.2)))⟩:bY)else none)=_
 rw[if_pos (by rw[aU];exact jm hl (by decide))]
 unfold iH;rw[if_neg (by rw[show mj (mH x) (es.map λe=>mH e.1)=false from hn];exact cf)]
 simp[Cv]
theorem HR(k:Nat){g:List aj}{j:Int}{d:Nat}:DT (run aM k) "Frame" [.ref g.length,.int j,.ref d] (g++[⟨.ins "Frame" [],[]⟩])=some (.ok .aL,g++[o8 j d 0]):=by
 rw[Hx];have e1:∀ρ,ee eL eM "at" (.ref g.length) (.int j) ⟨ρ,g++[⟨.ins "Frame" [],[]⟩]⟩=some ⟨ρ,g++[⟨.ins "Frame" ["at"],[.int j]⟩]⟩:=λρ=>fY (by kernel_rfl)
 have e2:∀ρ,ee eL eM "has" (.ref g.length) (.ref d) ⟨ρ,g++[⟨.ins "Frame" ["at"],[.int j]⟩]⟩=some ⟨ρ,g++[⟨.ins "Frame" ["at","has"],[.int j,.ref d]⟩]⟩:=λρ=>fY (by kernel_rfl)
 have e3:∀ρ,ee eL eM "row" (.ref g.length) (.int 0) ⟨ρ,g++[⟨.ins "Frame" ["at","has"],[.int j,.ref d]⟩]⟩=some ⟨ρ,g++[o8 j d 0]⟩:=λρ=>fY (by kernel_rfl)
 simp only[↓bI,e1,e2,e3]
structure Vs where
 a:Int
 b:Int
 c:List Int
 d:Int
 n:Int
 s:List Int
def stP(s:List Int):PV:=.au (s.map .int)
structure Ra where
 a:PV
 b:PV
 c:PV
 d:PV
 n:PV
 s:PV
def raw(V:Vs):Ra:=⟨.int V.a,.int V.b,stP V.c,.int V.d,.int V.n,stP V.s⟩
noncomputable def Hn(N:Nm)(n:Nat)(A:Ra):List (Str×Nat×Pl):=[(N.a,n+2,[(n+1,A.a)]),(N.b,n+4,[(n+3,A.b)]),(N.c,n+6,[(n+5,A.c)]),(N.d,n+8,[(n+7,A.d)]),(N.e,n+11,[(n+9,A.n),(n+10,A.s)])]
noncomputable abbrev IJ(prog:PV)(w nu:Nat)(li:PV)(fl sd:Nat)(cnt:Int):aj:=⟨.ins "Run" ["program","world","numbers","listed","frames","said","count"],[prog,.ref w,.ref nu,li,.ref fl,.ref sd,.int cnt]⟩
structure cF (h:List aj) (R:Nat) (N:Nm) (F:List Rw) (w nu fl sd:Nat) (fs:List PV) (cnt:Int) (bF:List Int):Prop where
 r:h[R]?=some (IJ (.au [fdP N F]) w nu (.lst [Dx N F]) fl sd cnt)
 nu:h[nu]?=some ⟨.eQ false [mH N.f],[.int 0]⟩
 fl:h[fl]?=some ⟨.lst,fs⟩
 sd:h[sd]?=some ⟨.lst,bF.map .int⟩
theorem cF.ch{h h':List aj}{A:List Nat}{N:Nm}{F:List Rw}{R w0 nu fl sd:Nat}{fs:List PV}{cnt:Int}{bF:List Int}(hR:cF h R N F w0 nu fl sd fs cnt bF)(c:Ch h h' A)(hA:R∉A/\nu∉A/\fl∉A/\sd∉A):cF h' R N F w0 nu fl sd fs cnt bF :=
 ⟨c.get hR.r hA.1,c.get hR.nu hA.2.1,c.get hR.fl hA.2.2.1,c.get hR.sd hA.2.2.2⟩
theorem cF.app{h:List aj}(g:List aj){N:Nm}{F:List Rw}{R w0 nu fl sd:Nat}{fs:List PV}{cnt:Int}{bF:List Int}(hR:cF h R N F w0 nu fl sd fs cnt bF):cF (h++g) R N F w0 nu fl sd fs cnt bF:=hR.ch (Ch.app h g []) (by simp)
theorem HS{h:List aj}{g:Nat}{es:List (Str×PV)}{x:Str}{v:PV}(e:h[g]?=some (Cv es))(hx:gX (mH x) (es.map λe=>mH e.1) (es.map (·.2))=some v):aZ h (.ref g) (.str x)=some v:=by
 have d:=ak e rfl;simp only[aZ,d];exact hx
theorem wN.ch{h h':List aj}{A:List Nat}{g:Nat}{P:Pl}(G:wN h g P)(c:Ch h h' A)(hg:g∉A)(hp:∀x∈P,x.1∉A):wN h' g P:=by
 obtain⟨t,a1,a2⟩:=G;exact⟨t,c.get a1 hg,λx hx=>by obtain⟨m,hm⟩:=a2 x hx;exact⟨m,c.get hm (hp x hx)⟩⟩
end bH
set_option maxHeartbeats 4000000
namespace bH
open PySem L2 L2.U
theorem keep{A:List Nat}{x y:List aj}{d gg:Nat}{PP:Pl}(h4:4<d)(G:wN x gg PP)(cc:Ch x y A)(hA:A=[4]\/A=[0,1]\/A=[d])(h1:d<gg)(h2:∀z∈PP,d<z.1):wN y gg PP:=by
 have nn:∀{m:Nat},d<m->m∉A:=λhm z=>by rcases hA with rfl | rfl | rfl<;>simp only[aC,bB,bD]at z<;>lia
 exact G.ch cc (nn h1) λz hz=>nn (h2 z hz)
theorem mJ{h g h':List aj}{d n:Nat}{es:List (Str×PV)}(x:Str)(v:PV)(hd:d=h.length)(h5:5<d)(D:g[d]?=some (Cv es))(k:Ch h g [0,1])(q:Ch g h' [0,1])(W:Wd h' n)(hes:es.length<100)(hx:∀e∈es,e.1≠x) :
  ∃t,(∀ρ,nH (.ref d) (.str x) v ⟨ρ,h'⟩=some ⟨ρ,t⟩)/\Ch h' t [d]/\t[d]?=some (Cv (es++[(x,v)]))/\t.length=h'.length/\Wd t n/\Ch h t [0,1]:=by
 have E:=q.get D (by intro z;simp only[aC,bB,bD]at z;lia)
 have u:Ch h' (h'.set d (Cv (es++[(x,v)]))) [d]:=Ch.set _;exact⟨_,λρ=>Ll E hes hx,u,cz E,gB,W.ch u (by simp only[aC,bB,bD];lia),(k.tr q (λ_ h _=>h)).tr u (λm hm hl=>by simp only[aC,bB,bD]at hm;lia)⟩
theorem Lm(c:Nat){h t:List aj}{N:Nm}{F:List Rw}{fs:List PV}{cnt:Int}{bF:List Int}{d j n:Nat}(hR:cF h 2 N F 0 3 4 5 fs cnt bF)(k:Ch h t [0,1])(hd:d=h.length)(lt:t.length=d+12)(W:Wd t n)(hfs:fs.length<=4000) :
  ∃h9,(∀ρ,fu (dN fw) (.ref 4) [.ref (d+12)] ⟨ρ,t++[o8 j d 0]⟩=some (.ok .aL,⟨ρ,h9⟩))/\DT (run aM c) "Frame" [.ref (d+12),.int (j:Int),.ref d] (t++[⟨.ins "Frame" [],[]⟩])=some (.ok .aL,t++[o8 j d 0])/\cS (t++[o8 j d 0]) (.ref 4)=some (.lst,fs)/\cF h9 2 N F 0 3 4 5 (fs++[.ref (d+12)]) cnt bF/\Ch t h9 [4]/\h9[d+12]?=some (o8 j d 0)/\Wd h9 n/\Ch h h9 [0,1,4]/\h9.length=d+13:=by
 have R3:=hR.ch k (by simp)
 have R4:=R3.app [o8 j d 0];have f1:=HR c (g:=t) (j:=(j:Int)) (d:=d);rw[lt]at f1;obtain⟨h9,VN⟩:∃h9,h9=(t++[o8 j d 0]).set 4 ⟨.lst,fs++[.ref (d+12)]⟩:=⟨_,rfl⟩
 have c9:Ch t h9 [4]:=by
  rw[VN];exact(Ch.app t [o8 j d 0] [4]).tr (Ch.set _) (λ_ h _=>h)
 refine⟨h9,λρ=>by rw[VN];exact eZ R4.fl (by lia),f1,ak R4.fl rfl,⟨c9.get R3.r (by simp),c9.get R3.nu (by simp),by rw[VN];exact cz R4.fl,c9.get R3.sd (by simp)⟩,c9,?_,W.ch c9 (by simp),(k.mono (by simp)).tr c9 (by simp),by rw[VN,gB,bO,lt];rfl⟩
 rw[VN,bW (by lia),<-lt]
 exact dv
theorem bh.ne{N:Nm}(K:bh N){x y:N5}(h:x≠y):N.n x≠N.n y:=λe=>h (K.n e)
theorem Ln(c:Nat){h:List aj}{g n:Nat}{N:Nm}(K:bh N){F:List Rw}{fs:List PV}{cnt:Int}{bF:List Int}{va:Int}{es:List (Str×PV)}
  (hR:cF h 2 N F 0 3 4 5 fs cnt bF) (W:Wd h (n+10)) (hg:h[g]?=some (Cv es)) (ga:gX (mH N.a) (es.map λe=>mH e.1) (es.map (·.2))=some (.lst [.int va])) (hfs:fs.length<=4000) :
  ∃h',run aM (c+8) "begin" [.ref 2,.int 0,.ref g] h=some (.ok .aL,h')/\cF h' 2 N F 0 3 4 5 (fs++[.ref (h.length+12)]) cnt bF/\lJ h' (h.length+12) h.length 0 0 (Hn N h.length ⟨.int va,.aL,.aL,.aL,.aL,.aL⟩)/\Wd h' n/\Ch h h' [0,1,4]/\h'.length=h.length+13:=by
 have RZ:5<h.length:=dZ hR.sd;obtain⟨d,hd⟩:∃d,d=h.length:=⟨_,rfl⟩
 rw[<-hd]at RZ ⊢;obtain⟨g0,VO⟩:∃g0,g0=h++[⟨.eQ false [],[]⟩]:=⟨_,rfl⟩
 have l0:g0.length=d+1:=by rw[VO,bO,hd];rfl
 have k0:Ch h g0 [0,1]:=by rw[VO];exact Ch.app _ _ _
 have D0:g0[d]?=some (Cv []):=by rw[VO,hd];exact dv
 have W0:Wd g0 ((n+8)+2):=by rw[VO];exact W.ch (Ch.app h _ []) (by simp)
 obtain⟨h1,o1,p1,q1,W1,G1⟩:=Ct (c+5) (j:=0) (vs:=[.int va]) (by simp) W0
 rw[l0]at o1 p1 G1;have o1:run aM (c+7) "Boxes.owned" [.ref 0,.int 0,.lst [.int va]] g0=some (.ok (.ref (d+2)),h1):=o1;have G1:wN h1 (d+2) (dF (d+1) [.int va]):=G1;obtain⟨t1,s1,u1,D1,L1,V1,k1⟩:=mJ (N.n .a) (.ref (d+2)) hd RZ D0 k0 q1 W1 (by simp) (by simp)
 have L1:t1.length=d+3:=L1.trans p1;obtain⟨h2,o2,p2,q2,W2,G2⟩:=Cu (c+3) (n:=n+6) (j:=0) N .b V1;rw[L1]at o2 p2 G2;have o2:run aM (c+7) "Boxes.let" [.ref 0,.int 0,kr N .b] t1=some (.ok (.ref (d+4)),h2):=o2
 have G2:wN h2 (d+4) (dF (d+3) (List.replicate 1 .aL)):=G2;obtain⟨t2,s2,u2,D2,L2,V2,k2⟩:=mJ (N.n .b) (.ref (d+4)) hd RZ D1 k1 q2 W2 (by simp) (by intro e he;simp only[dH,kO,aC,bB,bD]at he;rcases he with rfl<;>(dsimp only;apply K.ne;decide))
 have L2:t2.length=d+5:=L2.trans p2;obtain⟨h3,o3,p3,q3,W3,G3⟩:=Cu (c+3) (n:=n+4) (j:=0) N .c V2;rw[L2]at o3 p3 G3;have o3:run aM (c+7) "Boxes.let" [.ref 0,.int 0,kr N .c] t2=some (.ok (.ref (d+6)),h3):=o3
 have G3:wN h3 (d+6) (dF (d+5) (List.replicate 1 .aL)):=G3;obtain⟨t3,s3,u3,D3,L3,V3,k3⟩:=mJ (N.n .c) (.ref (d+6)) hd RZ D2 k2 q3 W3 (by simp) (by intro e he;simp only[dH,kO,aC,bB,bD]at he;rcases he with rfl | rfl<;>(dsimp only;apply K.ne;decide))
 have L3:t3.length=d+7:=L3.trans p3;obtain⟨h4,o4,p4,q4,W4,G4⟩:=Cu (c+3) (n:=n+2) (j:=0) N .d V3;rw[L3]at o4 p4 G4;have o4:run aM (c+7) "Boxes.let" [.ref 0,.int 0,kr N .d] t3=some (.ok (.ref (d+8)),h4):=o4
 have G4:wN h4 (d+8) (dF (d+7) (List.replicate 1 .aL)):=G4;obtain⟨t4,s4,u4,D4,L4,V4,k4⟩:=mJ (N.n .d) (.ref (d+8)) hd RZ D3 k3 q4 W4 (by simp) (by intro e he;simp only[dH,kO,aC,bB,bD]at he;rcases he with rfl | rfl | rfl<;>(dsimp only;apply K.ne;decide))
 have L4:t4.length=d+9:=L4.trans p4;obtain⟨h5,o5,p5,q5,W5,G5⟩:=Cu (c+3) (n:=n) (j:=0) N .e V4;rw[L4]at o5 p5 G5;have o5:run aM (c+7) "Boxes.let" [.ref 0,.int 0,kr N .e] t4=some (.ok (.ref (d+11)),h5):=o5
 have G5:wN h5 (d+11) (dF (d+9) (List.replicate 2 .aL)):=G5;obtain⟨t5,s5,u5,D5,L5,V5,k5⟩:=mJ (N.n .e) (.ref (d+11)) hd RZ D4 k4 q5 W5 (by simp) (by intro e he;simp only[dH,kO,aC,bB,bD]at he;rcases he with rfl | rfl | rfl | rfl<;>(dsimp only;apply K.ne;decide))
 have L5:t5.length=d+12:=L5.trans p5;have r0:=ak (hR.ch k0 (by simp)).r rfl
 have r1:=ak (hR.ch k1 (by simp)).r rfl
 have r2:=ak (hR.ch k2 (by simp)).r rfl
 have r3:=ak (hR.ch k3 (by simp)).r rfl
 have r4:=ak (hR.ch k4 (by simp)).r rfl
 have r5:=ak (hR.ch k5 (by simp)).r rfl
 have r9:=ak (hR.ch k5 (by simp)).fl rfl
 have wm:∀{t:List aj} {k:Nat} (L:List (Str×(Str×Nat))) (m:Str),Wd t k->(["entries","boxes_made","tags_made"]:List Str).contains m=false->DJ L m (.ref 0) t=L.lookup ("Boxes":Str):=λL m ⟨_,_,_,a0,_,_⟩ hm=>iL a0 hm
 have mo0:=λL=>wm L "owned" W0 (by kernel_rfl)
 have ml1:=λL=>wm L "let" V1 (by kernel_rfl)
 have ml2:=λL=>wm L "let" V2 (by kernel_rfl)
 have ml3:=λL=>wm L "let" V3 (by kernel_rfl)
 have ml4:=λL=>wm L "let" V4 (by kernel_rfl)
 have e2:∀h,aZ h (.au [fdP N F]) (.int 0)=some (fdP N F):=λh=>rfl
 have e3:∀h,aZ h (fdP N F) (.int 1)=some (.au [sJ N .a]):=λh=>rfl
 have e4:∀h,aZ h (fdP N F) (.int 3)=some (.au [sJ N .b,sJ N .c,sJ N .d,sJ N .e]):=λh=>rfl
 have e5:=g8 (c+6) N;have g01:g∉[0,1]:=by
  obtain⟨nb,nt,RI,a0,a1,_⟩:=W;simp only[aC,bB,bD,not_or];exact⟨dR hg a0 (by intro z;cases z),dR hg a1 (by intro z;cases z)⟩
 have e6:aZ g0 (.ref g) (.str (N.n .a))=_:=HS (k0.get hg g01) ga;have ZV:=fj (hR.ch k0 (by simp)).r
 have oN:=fj (hR.ch k1 (by simp)).r
 have HU:=fj (hR.ch k2 (by simp)).r
 have ZW:=fj (hR.ch k3 (by simp)).r
 have hE4:=fj (hR.ch k4 (by simp)).r
 obtain⟨h9,a1,f1,r8,R9,c9,fr9,W9,ca,la⟩:=Lm (c+7) (j:=0) hR k5 hd L5 V5 hfs;refine⟨h9,?_,R9,⟨fr9,c9.get D5 (by simp;lia),?_,?_⟩,W9,ca,la⟩
 ·have f1:DT (run aM (c+7)) "Frame" [.ref (d+12),.int 0,.ref d] (t5++[⟨.ins "Frame" [],[]⟩])=some (.ok .aL,t5++[o8 0 d 0]):=f1;have a1:∀ρ,fu (dN fw) (.ref 4) [.ref (d+12)] ⟨ρ,t5++[o8 0 d 0]⟩=some (.ok .aL,⟨ρ,h9⟩):=a1
  have r8:cS (t5++[o8 0 d 0]) (.ref 4)=some (.lst,fs):=r8;rw[DU];simp only[↓bI,<-VO,<-hd,r0,r1,r2,r3,r4,r5,r8,r9,mo0,ml1,ml2,ml3,ml4,e2,e3,e4,e5,e6,o1,o2,o3,o4,o5,s1,s2,s3,s4,s5,ZV,oN,HU,ZW,hE4,f1,L5,a1,yu,ao,noRef,cE,cD,pQ]
 ·have kp:=λ{A x y gg PP}=>@keep A x y d gg PP (by lia)
  intro e he;simp only[Hn,aC,bB,bD]at he;rcases he with rfl | rfl | rfl | rfl | rfl
  ·have z:∀z∈dF (d+1) [.int va],d<z.1:=by simp[dF]<;>lia
   show wN h9 (d+2) _;exact kp (kp (kp (kp (kp (kp (kp (kp (kp (kp G1 u1 (by simp) (by lia) z) q2 (by simp) (by lia) z) u2 (by simp) (by lia) z) q3 (by simp) (by lia) z) u3 (by simp) (by lia) z) q4 (by simp) (by lia) z) u4 (by simp) (by lia) z) q5 (by simp) (by lia) z) u5 (by simp) (by lia) z) c9 (by simp) (by lia) z
  ·have z:∀z∈dF (d+3) (List.replicate 1 .aL),d<z.1:=by simp[dF]<;>lia
   show wN h9 (d+4) _;exact kp (kp (kp (kp (kp (kp (kp (kp G2 u2 (by simp) (by lia) z) q3 (by simp) (by lia) z) u3 (by simp) (by lia) z) q4 (by simp) (by lia) z) u4 (by simp) (by lia) z) q5 (by simp) (by lia) z) u5 (by simp) (by lia) z) c9 (by simp) (by lia) z
  ·have z:∀z∈dF (d+5) (List.replicate 1 .aL),d<z.1:=by simp[dF]<;>lia
   show wN h9 (d+6) _;exact kp (kp (kp (kp (kp (kp G3 u3 (by simp) (by lia) z) q4 (by simp) (by lia) z) u4 (by simp) (by lia) z) q5 (by simp) (by lia) z) u5 (by simp) (by lia) z) c9 (by simp) (by lia) z
  ·have z:∀z∈dF (d+7) (List.replicate 1 .aL),d<z.1:=by simp[dF]<;>lia
   show wN h9 (d+8) _;exact kp (kp (kp (kp G4 u4 (by simp) (by lia) z) q5 (by simp) (by lia) z) u5 (by simp) (by lia) z) c9 (by simp) (by lia) z
  ·have z:∀z∈dF (d+9) (List.replicate 2 .aL),d<z.1:=by simp[dF]<;>lia
   show wN h9 (d+11) _;exact kp (kp G5 u5 (by simp) (by lia) z) c9 (by simp) (by lia) z
 ·intro e he;simp only[Hn,aC,bB,bD]at he;rcases he with rfl | rfl | rfl | rfl | rfl<;>simp
end bH
set_option maxHeartbeats 2000000
namespace bH
open PySem L2 L2.U
noncomputable def gr(V:Vs):Sp->List Int
 | .i _=>V.c
 | .c=>V.c
 | _=>V.s
def sL(V:Vs):Sp->PV
 | .a=>.int V.a
 | .b=>.int V.b
 | .d=>.int V.d
 | .n=>.int V.n
 | s=>stP (gr V s)
def IK(V:Vs):Ix->List PV
 | .a=>[.lst [.int V.a]]
 | .b=>[.lst [.int V.b]]
 | _=>[]
def Et(V:Vs):Sp->List PV
 | .i x=>IK V x
 | .j x=>IK V x
 | _=>[]
def yA(V:Vs):Op->List PV
 | .num _=>[]
 | .sp s=>Et V s++[.lst [sL V s]]
noncomputable def iu(V:Vs)(n:Nat):Ix->Nat
 | .at i=>i
 | .a=>(V.a%(n:Int)).toNat
 | .b=>(V.b%(n:Int)).toNat
def R6(V:Vs):Sp->Int
 | .a=>V.a
 | .b=>V.b
 | .d=>V.d
 | .n=>V.n
 | .i x=>V.c.getD (iu V V.c.length x) 0
 | .j x=>V.s.getD (iu V V.s.length x) 0
 | _=>0
def opV(V:Vs):Op->Int
 | .num i=>i
 | .sp s=>R6 V s
def AV(V:Vs):Op->Prop
 | .sp (.i (.at i))=>i<V.c.length
 | .sp (.j (.at i))=>i<V.s.length
 | .sp .s=>False
 | .sp .c=>False
 | _=>True
structure Hs (V:Vs):Prop where
 c:1<=V.c.length
 s:1<=V.s.length
theorem wq{h:List aj}{L:List PV}{v:PV}{ρ:List (Option PV)}(hl:L.length<=4000):fu (dN fw) (.ref h.length) [v] ⟨ρ,h++[⟨.lst,L⟩]⟩=some (.ok .aL,⟨ρ,h++[⟨.lst,L++[v]⟩]⟩):=by
 rw[wo dv hl,Ce]
theorem jO{L:List Int}{i:Nat}{h:List aj}(hi:i<L.length):aZ h (stP L) (.int (i:Int))=some (.int (L.getD i 0)):=atI_nat (by rw[cQ,kz,eE hi];rfl)
theorem mK{L:List Int}{h:List aj}:jw h [stP L]=some (.int (L.length:Int)):=by
 show some (PV.int ((L.map PV.int).length:Int))=_;rw[aU]
theorem iM{x:Int}{n:Nat}{h:List aj}(hn:1<=n):cB h (.int x) (.int (n:Int))=some (.int (((x%(n:Int)).toNat:Nat):Int)):=by
 show(if decide (0<(n:Int))=true then some (PV.int (x%(n:Int)))else none)=_
 rw[if_pos (eS (by lia)),zd (ib _ (by lia))]
theorem AW{i n:Nat}{h:List aj}(hn:i<n):cB h (.int (i:Int)) (.int (n:Int))=some (.int (i:Int)):=by
 rw[iM (by lia)]
 rw[Int.emod_eq_of_lt (by lia) (by lia),kL]
theorem mod_lt{x:Int}{n:Nat}(hn:1<=n):(x%(n:Int)).toNat<n:=by
 have:=kE x (show(0:Int)<n by lia)
 have:=ib x (show(n:Int)≠0 by lia)
 lia
noncomputable def ctO:Op->dB
 | .num _=>.ct
 | _=>.nx
theorem Lo(c:Nat){N:Nm}{V:Vs}{o:Op}{h:List aj}{L:List PV}{r p:PV}{k:Nat}{x4 x5 x6:Option PV}(hs:Hs V)(hL:L.length<=100)(hk:k<=100)(ho:AV V o)
  (hp:∀(i:Nat) v,(yA V o)[i]?=some v->aZ (h++[⟨.lst,L⟩]) p (.int ((k+i:Nat):Int))=some v) :
  ∃y4 y5 y6,az (run aM c) ⟨[some r,some p,some (.ref h.length),some (.int (k:Int)),some (i6 N o),x5,x6],h++[⟨.lst,L⟩]⟩=some (.ok (ctO o),⟨[some r,some p,some (.ref h.length),some (.int ((k+(yA V o).length:Nat):Int)),y4,y5,y6],h++[⟨.lst,L++[.int (opV V o)]⟩]⟩):=by
 have a1:=λρ v=>wq (h:=h) (ρ:=ρ) (v:=v) (L:=L) (by lia)
 have d1:cS (h++[⟨.lst,L⟩]) (.ref h.length)=some (.lst,L):=ak dv rfl;have ad:∀h (i:Nat),AF h (.int (i:Int)) (.int 1)=some (.int ((i+1:Nat):Int)):=λh i=>rfl
 cases o with
 | num i =>
  refine⟨some (i6 N (.num i)),x5,x6,?_⟩;refine bA ?_
  delta az gq
  simp only[↓gk,a1,d1,i6];rfl
 | sp s =>
  cases s with
  | s=>exact absurd ho id
  | c=>exact absurd ho id
  | a =>
   have p0:aZ (h++[⟨.lst,L⟩]) p (.int (k:Int))=some _:=hp 0 _ rfl;refine⟨some (gy N .a),some .aL,some (.int V.a),?_⟩;refine bA ?_
   delta az gq
   simp only[↓gk,a1,d1,p0,ad,gC];rfl
  | b =>
   have p0:aZ (h++[⟨.lst,L⟩]) p (.int (k:Int))=some _:=hp 0 _ rfl;refine⟨some (gy N .b),some .aL,some (.int V.b),?_⟩;refine bA ?_
   delta az gq
   simp only[↓gk,a1,d1,p0,ad,gC];rfl
  | d =>
   have p0:aZ (h++[⟨.lst,L⟩]) p (.int (k:Int))=some _:=hp 0 _ rfl;refine⟨some (gy N .d),some .aL,some (.int V.d),?_⟩;refine bA ?_
   delta az gq
   simp only[↓gk,a1,d1,p0,ad,gC];rfl
  | n =>
   have p0:aZ (h++[⟨.lst,L⟩]) p (.int (k:Int))=some _:=hp 0 _ rfl;refine⟨some (gy N .n),some .aL,some (.int V.n),?_⟩;refine bA ?_
   delta az gq
   simp only[↓gk,a1,d1,p0,ad,gC];rfl
  | i x =>
   have e3:∀h,jw h [sL V (.i x)]=_:=λh=>mK (L:=V.c) (h:=h)
   cases x with
   | «at» i =>
    have p0:aZ (h++[⟨.lst,L⟩]) p (.int (k:Int))=some _:=hp 0 _ rfl;have e1:∀h,cB h (yt N (.at i)) (.int (V.c.length:Int))=_:=λh=>AW ho
    have e2:∀h,aZ h (sL V (.i (.at i))) (.int (i:Int))=_:=λh=>jO (L:=V.c) ho
    refine⟨some (gy N (.i (.at i))),some (.int (i:Int)),some (stP V.c),?_⟩;refine bA ?_
    delta az gq
    simp only[↓gk,a1,d1,p0,ad,e1,e2,e3,gC];rfl
   | a =>
    have p0:aZ (h++[⟨.lst,L⟩]) p (.int (k:Int))=some _:=hp 0 _ rfl;have p1:=hp 1 _ rfl;have e1:∀h,cB h (.int V.a) (.int (V.c.length:Int))=_:=λh=>iM hs.c
    have e2:∀h,aZ h (sL V (.i .a)) (.int ((V.a%(V.c.length:Int)).toNat:Int))=_:=λh=>jO (L:=V.c) (mod_lt hs.c)
    refine⟨some (gy N (.i .a)),some (.int V.a),some (stP V.c),?_⟩;refine bA ?_
    delta az gq
    simp only[↓gk,a1,d1,p0,p1,ad,e1,e2,e3,gC];rfl
   | b =>
    have p0:aZ (h++[⟨.lst,L⟩]) p (.int (k:Int))=some _:=hp 0 _ rfl;have p1:=hp 1 _ rfl;have e1:∀h,cB h (.int V.b) (.int (V.c.length:Int))=_:=λh=>iM hs.c
    have e2:∀h,aZ h (sL V (.i .b)) (.int ((V.b%(V.c.length:Int)).toNat:Int))=_:=λh=>jO (L:=V.c) (mod_lt hs.c)
    refine⟨some (gy N (.i .b)),some (.int V.b),some (stP V.c),?_⟩;refine bA ?_
    delta az gq
    simp only[↓gk,a1,d1,p0,p1,ad,e1,e2,e3,gC];rfl
  | j x =>
   have e3:∀h,jw h [sL V (.j x)]=_:=λh=>mK (L:=V.s) (h:=h)
   cases x with
   | «at» i =>
    have p0:aZ (h++[⟨.lst,L⟩]) p (.int (k:Int))=some _:=hp 0 _ rfl;have e1:∀h,cB h (yt N (.at i)) (.int (V.s.length:Int))=_:=λh=>AW ho
    have e2:∀h,aZ h (sL V (.j (.at i))) (.int (i:Int))=_:=λh=>jO (L:=V.s) ho
    refine⟨some (gy N (.j (.at i))),some (.int (i:Int)),some (stP V.s),?_⟩;refine bA ?_
    delta az gq
    simp only[↓gk,a1,d1,p0,ad,e1,e2,e3,gC];rfl
   | a =>
    have p0:aZ (h++[⟨.lst,L⟩]) p (.int (k:Int))=some _:=hp 0 _ rfl;have p1:=hp 1 _ rfl;have e1:∀h,cB h (.int V.a) (.int (V.s.length:Int))=_:=λh=>iM hs.s
    have e2:∀h,aZ h (sL V (.j .a)) (.int ((V.a%(V.s.length:Int)).toNat:Int))=_:=λh=>jO (L:=V.s) (mod_lt hs.s)
    refine⟨some (gy N (.j .a)),some (.int V.a),some (stP V.s),?_⟩;refine bA ?_
    delta az gq
    simp only[↓gk,a1,d1,p0,p1,ad,e1,e2,e3,gC];rfl
   | b =>
    have p0:aZ (h++[⟨.lst,L⟩]) p (.int (k:Int))=some _:=hp 0 _ rfl;have p1:=hp 1 _ rfl;have e1:∀h,cB h (.int V.b) (.int (V.s.length:Int))=_:=λh=>iM hs.s
    have e2:∀h,aZ h (sL V (.j .b)) (.int ((V.b%(V.s.length:Int)).toNat:Int))=_:=λh=>jO (L:=V.s) (mod_lt hs.s)
    refine⟨some (gy N (.j .b)),some (.int V.b),some (stP V.s),?_⟩;refine bA ?_
    delta az gq
    simp only[↓gk,a1,d1,p0,p1,ad,e1,e2,e3,gC];rfl
noncomputable def bP:Rw->List Op
 | .put _ o=>[o]
 | .fill _ o=>[o]
 | .set _ _ o p=>[o,p]
 | .j9 o=>[o]
 | .ifs o p _=>[o,p]
 | _=>[]
theorem AX(c:Nat){N:Nm}(r:Rw):run aM (c+2) "operands" [bJ N r] []=some (.ok (.lst ((bP r).map (i6 N))),[]):=by
 cases r<;>kernel_rfl
def iw(V:Vs):List Op->List PV
 | []=>[]
 | o::os=>yA V o++iw V os
theorem Cw(c:Nat){N:Nm}{V:Vs}{h:List aj}{r p:PV}(hs:Hs V)(G:List PV)(hp:∀(i:Nat) v L,G[i]?=some v->aZ (h++[⟨.lst,L⟩]) p (.int (i:Int))=some v):∀(os:List Op) (L:List PV) (k:Nat) (x4 x5 x6:Option PV),(∀o∈os,AV V o)->L.length+os.length<=100->k+2*os.length<=100->(∃rest,G.drop k=iw V os++rest) ->
  ∃y3 y4 y5 y6,fS (dh 4) (az (run aM c)) (os.map (i6 N)) ⟨[some r,some p,some (.ref h.length),some (.int (k:Int)),x4,x5,x6],h++[⟨.lst,L⟩]⟩=some (.ok .nx,⟨[some r,some p,some (.ref h.length),y3,y4,y5,y6],h++[⟨.lst,L++os.map (λo=>.int (opV V o))⟩]⟩)
 | [],L,k,x4,x5,x6,_,_,_,_=>⟨_,x4,x5,x6,by simp;rfl⟩
 | o::os,L,k,x4,x5,x6,ho,hl,hk,⟨rest,hG⟩=>by
  simp only[cq]at hl hk;have fl:(yA V o).length<=2:=by
   cases o with
   | num i=>simp[yA]
   | sp s =>
    cases s
    case i x=>cases x<;>simp[yA,Et,IK]
    case j x=>cases x<;>simp[yA,Et,IK]
    all_goals simp[yA,Et]
  obtain⟨z4,z5,z6,h1⟩:=Lo c (N:=N) (r:=r) (p:=p) (k:=k) (x4:=x4) (x5:=x5) (x6:=x6) (h:=h) (L:=L) hs (by lia) (by lia) (ho o dw) (λi v hi=>hp (k+i) v L (by
   have:(G.drop k)[i]?=some v:=by
    rw[hG];show((yA V o++iw V os)++rest)[i]?=some v;rw[kH,gz (dS.mp hi).1];exact hi
   rwa [List.getElem?_drop]at this))
  obtain⟨y3,y4,y5,y6,h2⟩:=Cw c (N:=N) (r:=r) (p:=p) hs G hp os (L++[.int (opV V o)]) (k+(yA V o).length) z4 z5 z6 (λq hq=>ho q (cG _ hq)) (by rw[bO];simp only[cq,mX];lia) (by lia) ⟨rest,by
   rw[<-List.drop_drop,hG];show((yA V o++iw V os)++rest).drop _=_;rw[kH,List.drop_left]⟩
  refine⟨y3,y4,y5,y6,?_⟩;rw[kH]at h2;show bnd (stp (dh 4 (i6 N o))) (λ_=>bnd (az (run aM c)) (qF (fS (dh 4) (az (run aM c)) (os.map (i6 N))))) _=_
  refine eB (show stp (dh 4 (i6 N o)) _=some (.ok .nx,⟨[some r,some p,some (.ref h.length),some (.int (k:Int)),some (i6 N o),x5,x6],h++[⟨.lst,L⟩]⟩)from rfl) (eB h1 ?_)
  have:qF (fS (dh 4) (az (run aM c)) (os.map (i6 N))) (ctO o)=fS (dh 4) (az (run aM c)) (os.map (i6 N)):=by cases o<;>rfl
  rw[this];exact h2
end bH
set_option maxHeartbeats 4000000
namespace bH
open PySem L2 L2.U
def jP(V:Vs)(r:Rw):List PV:=(bP r).map λo=>.int (opV V o)
structure wt (g:List aj) (p:PV) (G:List PV):Prop where
 WI:∀(i:Nat) v L,G[i]?=some v->aZ (g++L) p (.int (i:Int))=some v
theorem rF(r:Rw):(bP r).length<=2:=by cases r<;>simp[bP]
theorem VP(c:Nat){N:Nm}{V:Vs}{g:List aj}{p:PV}{G:List PV}{r:Rw}(hs:Hs V)(hp:wt g p G)(ho:∀o∈bP r,AV V o)(hG:∃rest,G=iw V (bP r)++rest) :
  run aM (c+3) "numbers_found" [bJ N r,p] g=some (.ok (.ref g.length),g++[⟨.lst,jP V r⟩]):=by
 have l:=rF r;obtain⟨y3,y4,y5,y6,hl⟩:=Cw (c+2) (N:=N) (r:=bJ N r) (p:=p) (h:=g) hs G (λi v L=>hp.WI i v [⟨.lst,L⟩]) (bP r) [] 0 none none none ho (by simp;lia) (by lia) hG
 have e1:=AX c (N:=N) r;have e2:ao [bJ N r]=true:=by simp[ao,uc]
 rw[show(((0:Nat):Int))=0 from rfl,dH]at hl
 delta az gq at hl
 rw[mG];simp only[↓bI,e1,e2,hl,dH,cE,cD];rfl
noncomputable def pd:Int:=1000000000000000000000000000000
def QP:Sg->Int->Int->Int
 | .add,x,y=>(x+y)%pd
 | .sub,x,y=>(x-y)%pd
 | .mul,x,y=>x*y%pd
def AY(V:Vs):Rw->Int
 | .put _ o=>opV V o
 | .fill _ o=>opV V o
 | .set _ g o p=>QP g (opV V o) (opV V p)
 | _=>0
def Bd(x:Int):Prop:=0<=x/\x<pd
theorem HV{h:List aj}:OW h (.int 10) (.int 30)=some (.int pd):=by kernel_rfl
theorem rG{h:List aj}{x:Int}:cB h (.int x) (.int pd)=some (.int (x%pd)):=by
 show(if decide (0<pd)=true then some (PV.int (x%pd))else none)=_
 rw[if_pos (by decide +kernel)]
theorem HW{x:Int}(h:Bd x):x.natAbs<IG:=by
 have h1:=h.1;have h2:=h.2;unfold pd at h2;unfold IG
 lia
theorem HX{h:List aj}{x y:Int}(hx:Bd x)(hy:Bd y):jG h (.int x) (.int y)=some (.int (x*y)):=if_pos (.inr ⟨HW hx,HW hy⟩)
theorem ZX(c:Nat){N:Nm}{V:Vs}{g:List aj}{q:Nat}{G:List PV}{r:Rw}(hs:Hs V)(hp:wt g (.ref q) G)(ho:∀o∈bP r,AV V o)(hb:∀o∈bP r,Bd (opV V o))(hG:∃rest,G=iw V (bP r)++rest)(hE:g.isEmpty=false)(hr:(∃s o,r=.put s o)\/(∃s o,r=.fill s o)\/∃s g o p,r=.set s g o p) :
  run aM (c+4) "number_put" [bJ N r,.ref q] g=some (.ok (.int (AY V r)),g++[⟨.lst,jP V r⟩]):=by
 have e1:=VP c (N:=N) hs hp ho hG;have e2:ao [bJ N r,.ref q]=false:=by simp[ao,noRef]
 have e3:=Co (h:=g++[⟨.lst,jP V r⟩]) N r;have e4:=λh=>HV (h:=h)
 have e5:=λh x=>rG (h:=h) (x:=x)
 have i0:∀v,(jP V r)[0]?=some v->aZ (g++[⟨.lst,jP V r⟩]) (.ref g.length) (.int 0)=some v:=λv hv=>by
  have d:=ak (h:=g++[⟨.lst,jP V r⟩]) dv rfl;simp only[aZ,d];exact atI_nat (j:=0) hv
 have i1:∀v,(jP V r)[1]?=some v->aZ (g++[⟨.lst,jP V r⟩]) (.ref g.length) (.int 1)=some v:=λv hv=>by
  have d:=ak (h:=g++[⟨.lst,jP V r⟩]) dv rfl;simp only[aZ,d];exact atI_nat (j:=1) hv
 rw[rf];rcases hr with⟨s,o,rfl⟩ | ⟨s,o,rfl⟩ | ⟨s,w,o,p,rfl⟩
 ·have j0:=i0 _ rfl;simp only[↓bI,e1,e2,e3,j0,hE,aT,aS];rfl
 ·have j0:=i0 _ rfl;simp only[↓bI,e1,e2,e3,j0,hE,aT,aS];rfl
 ·have j0:=i0 _ rfl;have j1:=i1 _ rfl;have b0:=hb o (by simp[bP])
  have b1:=hb p (by simp[bP])
  have e6:=λh=>HX (h:=h) b0 b1
  have e7:∀h,aZ h (bJ N (.set s w o p)) (.int 2)=some (.str (Lh w)):=λh=>rfl
  cases w<;>(simp only[↓bI,e1,e2,e3,e4,e5,e6,e7,Lh,j0,j1,hE,aT,aS];rfl)
end bH
set_option maxHeartbeats 2000000
namespace bH
open PySem L2 L2.U
noncomputable def Na(N:Nm):Sp->Nat
 | .c=>N.z
 | .i _=>N.z
 | _=>N.y
def R7(N:Nm)(V:Vs)(x:Int):Sp->PV
 | .i i=>stP (V.c.set (iu V V.c.length i) x)
 | .j i=>stP (V.s.set (iu V V.s.length i) x)
 | .c=>stP (List.replicate N.z x)
 | .s=>stP (List.replicate N.y x)
 | _=>.int x
theorem Lp(c:Nat){N:Nm}(K:bh N)(F:List Rw){s:Sp}(h:s=.c\/s=.s):run aM (c+7) "strip_of" [fdP N F,gy N s] []=some (.ok (.au [.str "strip",.int (Na N s:Int)]),[]):=by
 rw[vW];have e3:=wb (c+5) K F s.x;have e4:=wc (c+4) N s.x;rcases h with rfl | rfl
 ·have e5:∀h,aZ h (gy N .c) (.int 0)=some (.str (N.n .c)):=λh=>rfl
  have e3:run aM (c+5+1) "kind_of" [fdP N F,.str (N.n .c)] []=_:=e3;have e4:run aM (c+4+2) "shape_of" [kr N .c] []=_:=e4;simp only[↓bI,e3,e4,e5];rfl
 ·have e5:∀h,aZ h (gy N .s) (.int 0)=some (.str (N.n .e)):=λh=>rfl
  have e3:run aM (c+5+1) "kind_of" [fdP N F,.str (N.n .e)] []=_:=e3;have e4:run aM (c+4+2) "shape_of" [kr N .e] []=_:=e4;simp only[↓bI,e3,e4,e5];rfl
theorem pe{h:List aj}{x:Int}{z:Nat}(z8:z<=8):jG h (.au [.int x]) (.int (z:Int))=some (stP (List.replicate z x)):=by
 show(if(0<=(z:Int)/\(z:Int)<=1000/\1<=[PV.int x].length/\[PV.int x].length<=100)then some (PV.au (List.replicate (z:Int).toNat [PV.int x]).flatten)else none)=_
 rw[if_pos ⟨by lia,by lia,by simp,by simp⟩,kL]
 unfold stP
 congr 2
 clear z8;induction z with
 | zero=>rfl
 | succ n ih=>rw[gA,kG,ih];simp[gA]
theorem HY(s:List Int)(q:Nat)(hq:q<=s.length):i8 (s.map .int) none (some (q:Int))=(s.take q).map .int:=by
 unfold i8;rw[HT.xk,HT.oU,aU,uJ hq,List.map_take];simp
theorem HZ(s:List Int)(q:Nat)(hq:q<=s.length):i8 (s.map .int) (some (q:Int)) none=(s.drop q).map .int:=by
 unfold i8;rw[HT.xk,HT.oU,aU,uJ hq,List.map_drop];rw[yY (by simp)]
theorem wu{h:List aj}{s:List Int}{q:Nat}{x:Int}(hq:q<s.length)(h8:s.length<=8) :
  (gh h (.au ((s.take q).map .int)) (.au [.int x]))=some (.au ((s.take q++[x]).map .int))/\gh h (.au ((s.take q++[x]).map .int)) (.au ((s.drop (q+1)).map .int))=some (stP (s.set q x)):=by
 constructor
 ·show L2.U.sizeOk (((s.take q).map PV.int).length+1) (.au ((s.take q).map PV.int++[.int x]))=_;unfold L2.U.sizeOk;rw[if_pos (aY (show _<=100 by simp;lia) (by decide))]
  simp
 ·show L2.U.sizeOk (((s.take q++[x]).map PV.int).length+((s.drop (q+1)).map PV.int).length) (.au ((s.take q++[x]).map PV.int++(s.drop (q+1)).map PV.int))=_;unfold L2.U.sizeOk;rw[if_pos (aY (show _<=100 by simp;lia) (by decide))]
  unfold stP;rw[<-fF,List.set_eq_take_append_cons_drop,if_pos hq,kH];rfl
def QQ(V:Vs):Sp->Prop
 | .i (.at i)=>i<V.c.length
 | .j (.at i)=>i<V.s.length
 | .c=>False
 | .s=>False
 | _=>True
structure Vz (N:Nm) (V:Vs):Prop where
 c:V.c.length=N.z
 s:V.s.length=N.y
theorem Vz.h{N:Nm}{V:Vs}(K:bh N)(z:Vz N V):Hs V:=⟨by rw[z.c];exact K.z1,by rw[z.s];exact K.y1⟩
theorem Vz.c8{N:Nm}{V:Vs}(K:bh N)(z:Vz N V):V.c.length<=8:=by rw[z.c];exact K.z8
theorem Vz.s8{N:Nm}{V:Vs}(K:bh N)(z:Vz N V):V.s.length<=8:=by rw[z.s];exact K.y8
theorem Nb(c:Nat){N:Nm}{F:List Rw}{g g':List aj}{q:Nat}{r:Rw}{sp:PV}{L:List Int}{V:Vs}{x:Ix}{num:Int}{w:Str}(hw:w="put"\/w="set")(h1:1<=L.length)(h8:L.length<=8)
  (e1:run aM (c+7) "number_put" [bJ N r,.ref q] g=some (.ok (.int num),g')) (e3:∀h,aZ h (bJ N r) (.int 0)=some (.str w)) (e5:∀h,aZ h (bJ N r) (.int 1)=some sp) (e6:∀h,aZ h sp (.int 3)=some (yt N x))
  (hA:∀i,x=.at i->i<L.length) (hl:∀v,IK V x=[v]->aZ g' (.ref q) (.int (-1))=some v) (hE:g.isEmpty=false) :
  run aM (c+8) "written" [fdP N F,bJ N r,.ref q,.lst [stP L]] g=some (.ok (.lst [stP (L.set (iu V L.length x) num)]),g'):=by
 have e2:ao [bJ N r,.ref q]=false:=by simp[ao,noRef]
 have e8:∀h,aZ h (.lst [stP L]) (.int 0)=some (stP L):=λh=>rfl
 have e9:=λh=>mK (L:=L) (h:=h)
 have hI:iu V L.length x<L.length:=by
  cases x with
  | «at» i=>exact hA i rfl
  | a=>exact mod_lt h1
  | b=>exact mod_lt h1
 have c1:∀h,J5 h none (some (iu V L.length x:Int)) (stP L)=some (.au ((L.take (iu V L.length x)).map .int)):=λh=>by
  show some (PV.au (i8 (L.map .int) none (some (iu V L.length x:Int))))=_;rw[HY _ _ (by lia)]
 have c2:∀h,J5 h (some (((iu V L.length x+1:Nat):Int))) none (stP L)=some (.au ((L.drop (iu V L.length x+1)).map .int)):=λh=>by
  show some (PV.au (i8 (L.map .int) (some ((iu V L.length x+1:Nat):Int)) none))=_;rw[HZ _ _ (by lia)]
 have c3:=λh=>(wu (h:=h) (x:=num) hI h8).1
 have c4:=λh=>(wu (h:=h) (x:=num) hI h8).2
 have ad:∀h,gh h (.int (iu V L.length x:Int)) (.int 1)=some (.int ((iu V L.length x+1:Nat):Int)):=λh=>rfl
 rw[fX];cases x with
 | «at» i =>
  have m1:∀h,cB h (yt N (.at i)) (.int (L.length:Int))=some (.int ((iu V L.length (.at i):Nat):Int)):=λh=>AW (hA i rfl)
  rcases hw with rfl | rfl<;>(simp only[↓bI,e1,e2,e3,e5,e6,e8,e9,c1,c2,c3,c4,ad,m1,hE,aT,aS])
 | a =>
  have m1:∀h,cB h (.int V.a) (.int (L.length:Int))=some (.int ((iu V L.length .a:Nat):Int)):=λh=>iM h1
  have l1:aZ g' (.ref q) (.int (-1))=some (.lst [.int V.a]):=hl _ rfl;rcases hw with rfl | rfl<;>(simp only[↓bI,e1,e2,e3,e5,e6,e8,e9,c1,c2,c3,c4,ad,m1,l1,hE,aT,aS])
 | b =>
  have m1:∀h,cB h (.int V.b) (.int (L.length:Int))=some (.int ((iu V L.length .b:Nat):Int)):=λh=>iM h1
  have l1:aZ g' (.ref q) (.int (-1))=some (.lst [.int V.b]):=hl _ rfl;rcases hw with rfl | rfl<;>(simp only[↓bI,e1,e2,e3,e5,e6,e8,e9,c1,c2,c3,c4,ad,m1,l1,hE,aT,aS])
theorem wx(c:Nat){N:Nm}{F:List Rw}{g g':List aj}{q:Nat}{r:Rw}{sp u:PV}{num:Int}{w:Str}(hw:w="put"\/w="set")
  (e1:run aM (c+7) "number_put" [bJ N r,.ref q] g=some (.ok (.int num),g')) (e3:∀h,aZ h (bJ N r) (.int 0)=some (.str w)) (e5:∀h,aZ h (bJ N r) (.int 1)=some sp) (e6:∀h,aZ h sp (.int 3)=some .aL) (hE:g.isEmpty=false) :
  run aM (c+8) "written" [fdP N F,bJ N r,.ref q,.lst [u]] g=some (.ok (.lst [.int num]),g'):=by
 have e2:ao [bJ N r,.ref q]=false:=by simp[ao,noRef]
 rw[fX];rcases hw with rfl | rfl<;>(simp only[↓bI,e1,e2,e3,e5,e6,hE,aT,aS])
theorem Lq(c:Nat){N:Nm}(K:bh N){F:List Rw}{g g':List aj}{q:Nat}{s:Sp}{o:Op}{u:PV}{num:Int}(hs:s=.c\/s=.s)
  (e1:run aM (c+7) "number_put" [bJ N (.fill s o),.ref q] g=some (.ok (.int num),g')) (hE:g.isEmpty=false) (IL:g'.isEmpty=false) :
  run aM (c+8) "written" [fdP N F,bJ N (.fill s o),.ref q,.lst [u]] g=some (.ok (.lst [stP (List.replicate (Na N s) num)]),g'):=by
 have e2:ao [bJ N (.fill s o),.ref q]=false:=by simp[ao,noRef]
 have e3:∀h,aZ h (bJ N (.fill s o)) (.int 0)=some (.str "fill"):=λh=>rfl
 have e5:∀h,aZ h (bJ N (.fill s o)) (.int 1)=some (gy N s):=λh=>rfl
 have e6:=Lp c K F hs;have e7:=λh=>pe (h:=h) (x:=num) (z:=Na N s) (by rcases hs with rfl | rfl;exact K.z8;exact K.y8)
 have nr:ao [fdP N F,gy N s]=true:=by simp[ao,nX,HH]
 rw[fX];simp only[↓bI,e1,e2,e3,e5,e6,e7,hE,IL,nr,aT,aS,cE,cD]
theorem Lr(c:Nat){N:Nm}{F:List Rw}{g:List aj}{q:Nat}{s t:Sp}{u v:PV}(h0:aZ g (.ref q) (.int 0)=some v):run aM (c+8) "written" [fdP N F,bJ N (.eR s t),.ref q,u] g=some (.ok v,g):=by
 have e3:∀h,aZ h (bJ N (.eR s t)) (.int 0)=some (.str "copy"):=λh=>rfl
 rw[fX];simp only[↓bI,e3,h0]
theorem Ls(c:Nat){N:Nm}{F:List Rw}{g:List aj}{q:Nat}{x:N5}{u v:PV}(h0:aZ g (.ref q) (.int 0)=some v):run aM (c+8) "written" [fdP N F,bJ N (.gU x),.ref q,u] g=some (.ok v,g):=by
 have e3:∀h,aZ h (bJ N (.gU x)) (.int 0)=some (.str "move"):=λh=>rfl
 rw[fX];simp only[↓bI,e3,h0]
end bH
set_option maxHeartbeats 4000000
namespace bH
open PySem L2 L2.U
noncomputable def newV(P:Pl)(W:List PV)(x:Nat×PV):PV:=match P,W with
 | y::P,w::W=>newV P W (x.1,if y.1=x.1 then w else x.2)
 | _,_=>x.2
def Lu(H:List (Str×Nat×Pl))(P:Pl)(W:List PV):List (Str×Nat×Pl):=H.map λe=>(e.1,e.2.1,e.2.2.map λx=>(x.1,newV P W x))
theorem Lv(H:List (Str×Nat×Pl))(P:Pl)(W:List PV):oK (Lu H P W)=oK H:=by
 unfold oK Lu;simp only[jn,pC]
theorem Cy{x0 x1 x2 x3:Option PV}:∀(P:Pl) (W:List PV) (h:List aj) (x4 x5:Option PV),(∀x∈P,∃m t v,h[x.1]?=some (jd m t v))->P.length=W.length ->
  ∃h' y4 y5,fS Q0 (KA eL eM "value" (rd 5) (rd 4)) (List.zipWith fV (P.map λx=>.ref x.1) W) ⟨[x0,x1,x2,x3,x4,x5],h⟩=some (.ok .nx,⟨[x0,x1,x2,x3,y4,y5],h'⟩)/\Ch h h' (P.map (·.1))/\∀n m t v,h[n]?=some (jd m t v)->h'[n]?=some (jd m t (newV P W (n,v)))
 | [],[],h,x4,x5,_,_=>⟨h,x4,x5,rfl,Ch.refl _ _,λn m t v e=>by unfold newV;exact e⟩
 | [],_::_,h,x4,x5,_,e=>by cases e
 | _::_,[],h,x4,x5,_,e=>by cases e
 | x::P,w::W,h,x4,x5,hp,e=>by
  obtain⟨m,t,v,e1⟩:=hp x (by simp)
  have st:∀n m' t' v',h[n]?=some (jd m' t' v')->(h.set x.1 (jd m t w))[n]?=some (jd m' t' (if x.1=n then w else v')):=λn m' t' v' e2=>by
   by_cases hx:x.1=n
   ·subst hx;rw[e1]at e2;cases e2;rw[if_pos rfl];exact cz e1
   ·rw[if_neg hx,bW hx];exact e2
  obtain⟨h',y4,y5,ih,c1,k1⟩:=Cy (x0:=x0) (x1:=x1) (x2:=x2) (x3:=x3) P W (h.set x.1 (jd m t w)) (some (.ref x.1)) (some w) (λz hz=>by
   obtain⟨m',t',u,e2⟩:=hp z (by simp[hz])
   exact⟨m',t',_,st _ _ _ _ e2⟩) (by simpa using e)
  refine⟨h',y4,y5,?_,?_,λn m' t' v' e2=>?_⟩
  ·have e2:=λρ=>Cf (w:=w) (ρ:=ρ) e1
   refine bA ?_;simp only[aQ,List.zipWith_cons_cons,fV];simp only[↓gk,e2,ih]
  ·refine Ch.tr ((Ch.set (jd m t w)).mono (B:=(x::P).map (·.1)) (by simp)) c1 ?_
   intro n hn _;simp only[aQ,aC];exact .inr hn
  ·exact k1 _ _ _ _ (st n m' t' v' e2)
theorem Lw(c:Nat){h:List aj}{fi d k:Nat}{j r:Int}{H:List (Str×Nat×Pl)}{a:Ac}{W:List PV}(R:lJ h fi d j r H)(ft:oM H a)(hW:W.length=(aD H a).length) :
  ∃h',run aM (c+2) "Boxes.store" [.ref 0,.ref fi,cK k a,.lst W] h=some (.ok .aL,h')/\Ch h h' ((aD H a).map (·.1))/\lJ h' fi d j r (Lu H (aD H a) W):=by
 have e1:=Qy c R ft (k:=k);have hE:=fj R.f;obtain⟨g,Q,t,i1,i2,i3⟩:=rm R ft;have hz:P2 (.lst (ly (aD H a))) (.lst W)=some (List.zipWith fV ((aD H a).map λx=>.ref x.1) W):=rfl
 obtain⟨h',y4,y5,hl,c1,k1⟩:=Cy (x0:=some (.ref 0)) (x1:=some (.ref fi)) (x2:=some (cK k a)) (x3:=some (.lst W)) (aD H a) W h none none (λx hx=>by obtain⟨m,hm⟩:=i3 x hx;exact⟨m,t,_,hm⟩) hW.symm
 have no:∀{n:Nat} {cc:aj},h[n]?=some cc->(∀m t v,cc≠jd m t v)->n∉(aD H a).map (·.1):=λ{n cc} e hc hm=>by
  obtain⟨x,hx,wO⟩:=bX.mp hm;have wO:x.1=n:=wO;obtain⟨m,hm⟩:=i3 x hx;rw[wO,e]at hm;exact hc m t x.2 (aX hm)
 refine⟨h',?_,c1,⟨c1.get R.f (no R.f λm t v z=>by cases z),?_,λe he=>?_,λe he=>?_⟩⟩
 ·rw[oF];simp only[↓bI,e1,hE,jL,hz,hl,aT,aS]
 ·rw[Lv];exact c1.get R.d (no R.d λm t v z=>by unfold oK at z;cases z)
 ·obtain⟨e0,Lx,rfl⟩:=bX.mp he;obtain⟨t',a1,a2⟩:=R.p e0 Lx;refine⟨t',?_,λx hx=>?_⟩
  ·have:=c1.get a1 (no a1 λm t v z=>by cases z)
   rw[this];simp only[ly,jn,pC]
  ·obtain⟨x0,VQ,rfl⟩:=bX.mp hx;obtain⟨m,hm⟩:=a2 x0 VQ;exact⟨m,k1 _ _ _ _ hm⟩
 ·obtain⟨e0,Lx,rfl⟩:=bX.mp he;rw[aU];exact R.l e0 Lx
end bH
set_option maxHeartbeats 2000000
namespace bH
open PySem L2 L2.U
abbrev iN(h:List aj)(N:Nm)(n r:Nat)(A:Ra):Prop:=lJ h (n+12) n 0 (r:Int) (Hn N n A)
noncomputable def gQ(n:Nat)(A:Ra):N5->Pl
 | .a=>[(n+1,A.a)]
 | .b=>[(n+3,A.b)]
 | .c=>[(n+5,A.c)]
 | .d=>[(n+7,A.d)]
 | .e=>[(n+9,A.n),(n+10,A.s)]
noncomputable def QR(n:Nat):N5->Nat
 | .a=>n+2
 | .b=>n+4
 | .c=>n+6
 | .d=>n+8
 | .e=>n+11
def VR(n:Nat)(V:Vs)(x:N5):Pl:=gQ n (raw V) x
noncomputable def Eu(n:Nat):Sp->Nat
 | .a=>n+1
 | .b=>n+3
 | .c=>n+5
 | .i _=>n+5
 | .d=>n+7
 | .n=>n+9
 | _=>n+10
noncomputable def R8(A:Ra):Sp->PV
 | .a=>A.a
 | .b=>A.b
 | .c=>A.c
 | .i _=>A.c
 | .d=>A.d
 | .n=>A.n
 | _=>A.s
theorem QS{N:Nm}(K:bh N)(n:Nat)(A:Ra)(x:N5):(Hn N n A).lookup (N.n x)=some (QR n x,gQ n A x):=by
 have h:∀y:N5,y≠x->(N.n x==N.n y)=false:=λy e=>K.b e.symm
 have ha:=h .a;have hb:=h .b;have hc:=h .c;have hd:=h .d;have q:(N.n x==N.n x)=true:=f7 _;cases x
 case a=>simp only[Hn,dy,show(N.n .a==N.a)=true from q];rfl
 case b=>simp only[Hn,dy,show(N.n .b==N.a)=false from ha (by decide),show(N.n .b==N.b)=true from q];rfl
 case c=>simp only[Hn,dy,show(N.n .c==N.a)=false from ha (by decide),show(N.n .c==N.b)=false from hb (by decide),show(N.n .c==N.c)=true from q];rfl
 case d=>simp only[Hn,dy,show(N.n .d==N.a)=false from ha (by decide),show(N.n .d==N.b)=false from hb (by decide),show(N.n .d==N.c)=false from hc (by decide),show(N.n .d==N.d)=true from q];rfl
 case e=>simp only[Hn,dy,show(N.n .e==N.a)=false from ha (by decide),show(N.n .e==N.b)=false from hb (by decide),show(N.n .e==N.c)=false from hc (by decide),show(N.n .e==N.d)=false from hd (by decide),show(N.n .e==N.e)=true from q];rfl
def ZY(V:Vs):N5->List PV
 | .a=>[.int V.a]
 | .b=>[.int V.b]
 | .c=>[stP V.c]
 | .d=>[.int V.d]
 | .e=>[.int V.n,stP V.s]
theorem j2{N:Nm}(K:bh N)(n:Nat)(A:Ra)(x:N5)(wd t:Str):aD (Hn N n A) ⟨wd,N.n x,false,0,rn x,t⟩=gQ n A x:=by
 rw[lA (QS K n A x)];cases x<;>rfl
theorem H0(n:Nat)(V:Vs)(x:N5):cP (VR n V x)=.lst (ZY V x):=by cases x<;>rfl
theorem rH{N:Nm}(K:bh N)(n:Nat)(A:Ra)(s:Sp)(wd t:Str):aD (Hn N n A) ⟨wd,N.n s.x,false,s.f,1,t⟩=[(Eu n s,R8 A s)]:=by
 rw[lA (QS K n A s.x)];cases s<;>rfl
theorem Ly(V:Vs)(s:Sp):R8 (raw V) s=sL V s:=by cases s<;>rfl
theorem wz{N:Nm}(K:bh N)(n:Nat)(V:Vs)(s:Sp)(wd t:Str):aD (Hn N n (raw V)) ⟨wd,N.n s.x,false,s.f,1,t⟩=[(Eu n s,sL V s)]:=by rw[rH K,Ly]
theorem g9{N:Nm}(K:bh N)(n:Nat)(A:Ra)(x:N5)(wd t:Str):oM (Hn N n A) ⟨wd,N.n x,false,0,rn x,t⟩:=⟨_,QS K n A x,by cases x<;>simp[gQ,rn]⟩
theorem iO{N:Nm}(K:bh N)(n:Nat)(A:Ra)(s:Sp)(wd t:Str):oM (Hn N n A) ⟨wd,N.n s.x,false,s.f,1,t⟩:=⟨_,QS K n A s.x,by cases s<;>simp[gQ,Sp.x,Sp.f]⟩
def wA(N:Nm)(V:Vs)(x:Int):Sp->Vs
 | .a=>{V with a:=x}
 | .b=>{V with b:=x}
 | .d=>{V with d:=x}
 | .n=>{V with n:=x}
 | .c=>{V with c:=List.replicate N.z x}
 | .s=>{V with s:=List.replicate N.y x}
 | .i i=>{V with c:=V.c.set (iu V V.c.length i) x}
 | .j i=>{V with s:=V.s.set (iu V V.s.length i) x}
noncomputable def fg(A:Ra)(v:PV):Sp->Ra
 | .a=>{A with a:=v}
 | .b=>{A with b:=v}
 | .d=>{A with d:=v}
 | .n=>{A with n:=v}
 | .c=>{A with c:=v}
 | .i _=>{A with c:=v}
 | _=>{A with s:=v}
theorem yB(N:Nm)(n:Nat)(A:Ra)(s:Sp)(v u:PV):Lu (Hn N n A) [(Eu n s,u)] [v]=Hn N n (fg A v s):=by
 cases s<;>simp[Lu,Hn,newV,Eu,fg]<;>lia
theorem mL(N:Nm)(V:Vs)(s:Sp)(x:Int):fg (raw V) (R7 N V x s) s=raw (wA N V x s):=by cases s<;>rfl
end bH
set_option maxHeartbeats 4000000
namespace bH
open PySem L2 L2.U
theorem Cz(c:Nat)(k:Nat)(a:Ac)(h:a.w="read"\/a.w="fill"\/a.w="turn"):run aM (c+1) "is_lending" [cK k a] []=some (.ok (.bl false),[]):=by
 obtain⟨w,x,t,f,m,tk⟩:=a;have h:w="read"\/w="fill"\/w="turn":=h;rcases h with rfl | rfl | rfl<;>kernel_rfl
theorem Wd.l1{h:List aj}{k:Nat}(w:Wd h k):∃es,h[1]?=some ⟨.lst,es⟩:=by
 obtain⟨nb,nt,es,_,h1,_⟩:=w;exact⟨es,h1⟩
theorem Wd.mt{h:List aj}{k:Nat}(w:Wd h k)(L:List (Str×(Str×Nat)))(m:Str)(hm:(["entries","boxes_made","tags_made"]:List Str).contains m=false):DJ L m (.ref 0) h=L.lookup ("Boxes":Str):=by
 obtain⟨nb,nt,es,a0,_,_⟩:=w;exact iL a0 hm
theorem lJ.ch{h h':List aj}{A:List Nat}{fi d:Nat}{j r:Int}{H:List (Str×Nat×Pl)}(F:lJ h fi d j r H)(c:Ch h h' A)(hf:fi∉A)(hd:d∉A)(hp:∀e∈H,e.2.1∉A/\∀x∈e.2.2,x.1∉A):lJ h' fi d j r H :=
 ⟨c.get F.f hf,c.get F.d hd,λe he=>(F.p e he).ch c (hp e he).1 (hp e he).2,F.l⟩
theorem lJ.Sb{h h':List aj}{fi d:Nat}{j r:Int}{H:List (Str×Nat×Pl)}(F:lJ h fi d j r H)(w:∃es,h[1]?=some ⟨.lst,es⟩)(c:Ch h h' [1]):lJ h' fi d j r H:=by
 obtain⟨es,h1⟩:=w;have no:∀{i:Nat} {cc:aj},h[i]?=some cc->(∀l,cc≠⟨.lst,l⟩)->i∉[1]:=λe n=>by
  rw[bz];exact dR e h1 (n _)
 refine F.ch c (no F.f λl z=>by cases z) (no F.d λl z=>by unfold oK at z;cases z) λe he=>?_
 obtain⟨t,a1,a2⟩:=F.p e he;refine⟨no a1 (λl z=>by cases z),λx hx=>?_⟩
 obtain⟨m,hm⟩:=a2 x hx;exact no hm λl z=>by cases z
theorem lJ.app{h:List aj}(g:List aj){fi d:Nat}{j r:Int}{H:List (Str×Nat×Pl)}(F:lJ h fi d j r H):lJ (h++g) fi d j r H:=F.ch (Ch.app h g []) (by simp) (by simp) λe he=>⟨by simp,λx hx=>by simp⟩
def H9(H:List (Str×Nat×Pl))(a:Ac):Prop:=oM H a/\a.w="read"/\a.m<=2/\∀x∈aD H a,d8 x.2=false
theorem QT(c:Nat){N:Nm}{F:List Rw}{fs:List PV}{cnt:Int}{bF:List Int}{h:List aj}{fi d k q n:Nat}{j r:Int}{H:List (Str×Nat×Pl)}{a:Ac}{row:PV}
  (hR:cF h 2 N F 0 3 4 5 fs cnt bF) (hF:lJ h fi d j r H) (ha:H9 H a) (W:Wd h (n+2)) :
  ∃h',run aM (c+7) "do_act" [.ref 2,.ref fi,row,cK k a,.ref q] h=some (.ok (cP (aD H a)),h')/\Ch h h' [1]/\Wd h' n:=by
 obtain⟨ft,hw,hm,hv⟩:=ha;obtain⟨h',e2,c2,w2⟩:=Ck c (k:=k) hF ft (.inl hw) hm (λ_=>hv) W
 have e1:=Cz (c+5) k a (.inl hw);have e3:=ak hR.r rfl;have e4:=λL=>W.mt L "touch" (by kernel_rfl)
 have e5:∀h,aZ h (cK k a) (.int 1)=some (.str "read"):=λh=>by rw[ub,hw]
 have hE:=fj hF.f;have IL:=fj (hF.Sb W.l1 c2).f;have nr:ao [cK k a]=true:=by simp[ao,nV]
 refine⟨h',?_,c2,w2⟩;rw[lu];simp only[↓bI,e1,e2,e3,e4,e5,hE,IL,nr,nV,aT,aS,cE,cD]
theorem lC(c:Nat){N:Nm}{F:List Rw}{fs:List PV}{cnt:Int}{bF:List Int}{h:List aj}{fi d k:Nat}{j r:Int}{H:List (Str×Nat×Pl)}{row so:PV}
  (hR:cF h 2 N F 0 3 4 5 fs cnt bF) (hF:lJ h fi d j r H) (hW:∃es,h[1]?=some ⟨.lst,es⟩):∀(A:List Ac) (L:List PV) (g:List aj) (x5:Option PV) (n:Nat),Ch h g [1]->g[h.length]?=some ⟨.lst,L⟩->Wd g (n+2*A.length)->(∀a∈A,H9 H a)->L.length+A.length<=1000 ->
  ∃g' y5,(∀rest,fS (dh 5) (cO (run aM (c+7))) (A.map (cK k)++rest) ⟨[some (.ref 2),some (.ref fi),some row,some so,some (.ref h.length),x5],g⟩=fS (dh 5) (cO (run aM (c+7))) rest ⟨[some (.ref 2),some (.ref fi),some row,some so,some (.ref h.length),y5],g'⟩)/\Ch h g' [1]/\g'[h.length]?=some ⟨.lst,L++A.map λa=>cP (aD H a)⟩/\Wd g' n
 | [],L,g,x5,n,hc,hg,W,_,_=>⟨g,x5,λrest=>by simp,hc,by simpa using hg,W⟩
 | a::A,L,g,x5,n,hc,hg,W,ha,hl=>by
  simp only[cq]at hl W;have h5:5<h.length:=dZ hR.sd;have gR:=hR.ch hc (by simp)
  have gF:=hF.Sb hW hc;obtain⟨g1,e1,c1,w1⟩:=QT c (k:=k) (q:=h.length) (row:=row) gR gF (ha a dw) (n:=n+2*A.length) (W.mono (by lia))
  have q1:=c1.get hg (by simp;lia)
  have a1:=λρ v=>eZ (ρ:=ρ) (v:=v) q1 (by lia)
  have d1:=ak q1 rfl;have d0:=ak hg rfl;have hE:=fj hg;have oN:=fj q1;have nr:∀l,ao (.ref 2::l)=false:=jL 2
  obtain⟨g2,wL⟩:∃g2,g2=g1.set h.length ⟨.lst,L++[cP (aD H a)]⟩:=⟨_,rfl⟩
  have b1:cO (run aM (c+7)) ⟨[some (.ref 2),some (.ref fi),some row,some so,some (.ref h.length),some (cK k a)],g⟩=some (.ok .nx,⟨[some (.ref 2),some (.ref fi),some row,some so,some (.ref h.length),some (cK k a)],g2⟩):=by
   rw[wL];refine bA ?_
   delta cO gq
   simp only[↓gk,e1,a1,d1,d0,hE,oN,nr,aT,aS]
  have u2:Ch g1 g2 [h.length]:=by rw[wL];exact Ch.set _
  have c2:Ch h g2 [1]:=(hc.tr c1 (λ_ h _=>h)).tr u2 (λm hm hl=>by rw[bz]at hm;lia)
  obtain⟨g',y5,ih,i1,i2,i3⟩:=lC c (k:=k) (row:=row) (so:=so) hR hF hW A (L++[cP (aD H a)]) g2 (some (cK k a)) n c2 (by rw[wL];exact cz q1) (w1.ch u2 (by simp;lia)) (λb hb=>ha b (cG _ hb)) (by rw[bO];simp only[cq,mX];lia)
  refine⟨g',y5,λrest=>?_,i1,by rw[i2];simp,i3⟩
  rw[aQ,kO,<-ih rest];exact fC (s1:=⟨[some (.ref 2),some (.ref fi),some row,some so,some (.ref h.length),some (cK k a)],_⟩) rfl b1 rfl
theorem Lz(c:Nat){N:Nm}{F:List Rw}{fs:List PV}{cnt:Int}{bF:List Int}{h:List aj}{fi d k n:Nat}{j r:Int}{H:List (Str×Nat×Pl)}{row:PV}
  (hR:cF h 2 N F 0 3 4 5 fs cnt bF) (hF:lJ h fi d j r H) (A:List Ac) (ha:∀a∈A,H9 H a) (hl:A.length<=100) (W:Wd h (n+2*A.length)) :
  ∃h',run aM (c+8) "do_acts" [.ref 2,.ref fi,row,.lst (A.map (cK k))] h=some (.ok (.lst (A.map λa=>cP (aD H a))),h')/\Ch h h' [1]/\Wd h' n:=by
 have h5:5<h.length:=dZ hR.sd;obtain⟨g,y5,e1,c1,q1,w1⟩:=lC c (k:=k) (row:=row) (so:=.lst (A.map (cK k))) hR hF W.l1 A [] (h++[⟨.lst,[]⟩]) none n (Ch.app _ _ _) dv (W.ch (Ch.app h _ []) (by simp)) ha (by simp;lia)
 have e1:=e1 [];rw[cY]at e1;rw[dH]at q1;have e1:fS (dh 5) (cO (run aM (c+7))) (A.map (cK k)) ⟨[some (.ref 2),some (.ref fi),some row,some (.lst (A.map (cK k))),some (.ref h.length),none],h++[⟨.lst,[]⟩]⟩=some (.ok .nx,⟨[some (.ref 2),some (.ref fi),some row,some (.lst (A.map (cK k))),some (.ref h.length),y5],g⟩):=e1;have e3:=dC q1 rfl
 revert e1
 delta cO gq
 intro e1;refine⟨g.set h.length oA,?_,c1.tr (Ch.set _) (λm hm hl=>by rw[bz]at hm;lia),w1.ch (Ch.set _) (by simp;lia)⟩
 rw[jK];simp only[↓bI,e1,e3]
end bH
set_option maxHeartbeats 4000000
namespace bH
open PySem L2 L2.U
theorem LA(c:Nat){g:List aj}{fi d q k n:Nat}{j r m t:Int}{a:Ac}{L:List PV}{x:Nat×PV}(W:Wd g (n+1))(hf:g[fi]?=some (o8 j d r))(hq:g[q]?=some ⟨.lst,L⟩)(hx:g[x.1]?=some (jd m t x.2))(q1:q≠1)(hw:a.w="empty")(hv:d8 x.2=false)(hL:L.length<=4000){x7:Option PV} :
  ∃g',aI (run aM (c+4)) ⟨[some (.ref 0),some (.ref fi),some (cK k a),some (.int (-1)),some (.ref q),some (.int t),some (.ref x.1),x7],g⟩=some (.ok .nx,⟨[some (.ref 0),some (.ref fi),some (cK k a),some (.int (-1)),some (.ref q),some (.int t),some (.ref x.1),some (ef t)],g'⟩)/\Ch g g' [1,q,x.1]/\Wd g' n/\g'[q]?=some ⟨.lst,L++[x.2]⟩/\g'[x.1]?=some (jd m t .aL):=by
 have⟨nb,nt,_,h0,_,_⟩:=W;obtain⟨es,h1,hl,W1⟩:=Wd.add (v:=.au [.int j,.int r,.str "write",.int m,.int t,.int (-1)]) W;have ap:=λρ v=>eZ (ρ:=ρ) (v:=v) h1 hl
 have x1:x.1≠1:=dR hx h1 (by intro z;cases z)
 have xq:x.1≠q:=dR hx hq (by intro z;cases z)
 have x0:0≠x.1:=dR h0 hx (by intro z;cases z)
 obtain⟨g1,nW⟩:∃g1,g1=g.set 1 ⟨.lst,es++[.au [.int j,.int r,.str "write",.int m,.int t,.int (-1)]]⟩:=⟨_,rfl⟩
 rw[<-nW]at W1;have c1:Ch g g1 [1]:=by rw[nW];exact Ch.set _
 have bx:=c1.get hx (by simp;exact x1)
 have qx:=c1.get hq (by simp;exact q1)
 obtain⟨g2,wL⟩:∃g2,g2=g1.set q ⟨.lst,L++[x.2]⟩:=⟨_,rfl⟩
 have c2:Ch g1 g2 [q]:=by rw[wL];exact Ch.set _
 have bx2:=c2.get bx (by simp;exact xq)
 have q2:g2[q]?=some ⟨.lst,L++[x.2]⟩:=by rw[wL];exact cz qx
 have W2:Wd g2 n:=W1.ch c2 ⟨by simp;exact(dR h0 hq (by intro z;cases z)),by simp;exact bU q1⟩
 have d0:=ak h0 rfl;have d1:=ak h1 rfl;have df:=ak hf rfl;have db:=ak hx rfl;have QA:=ak bx rfl;have VA:=ak qx rfl;have pp:=λρ=>yp (ρ:=ρ) bx
 have pv:=λρ=>Cf (ρ:=ρ) (w:=.aL) bx2
 have aq:∀ρ,fu (dN fw) (.ref q) [x.2] ⟨ρ,g1⟩=some (.ok .aL,⟨ρ,g2⟩):=λρ=>by rw[wL];exact eZ qx (by lia)
 have pw:=AS (c+1) t (-1) (w:="write") (.inr rfl);have VB:∀w:Str,ao [ef t,.str w,.int t,.int (-1)]=true:=λ_=>rfl
 have VC:ao [cK k a]=true:=by simp[ao,nV]
 have as:run aM (c+4) "asks_for_full" [cK k a] []=some (.ok (.bl true),[]):=by
  obtain⟨w,x,t,f,m,tk⟩:=a;have hw:w="empty":=hw;subst hw;kernel_rfl
 have iso:∀h,RQ h x.2 .aL=some (.bl (d8 x.2)):=λh=>rfl
 have hE:=fj hx;have oN:=fj bx;have e1:∀h,aZ h (cK k a) (.int 1)=some (.str "empty"):=λ_=>by rw[ub,hw]
 have ap:∀ρ,fu (dN fw) (.ref 1) [.au [.int j,.int r,.str "write",.int m,.int t,.int (-1)]] ⟨ρ,g⟩=some (.ok .aL,⟨ρ,g1⟩):=λρ=>by rw[nW];exact ap ρ _
 refine⟨g2.set x.1 (jd m t .aL),?_,?_,W2.ch (Ch.set _) ⟨by simp;exact x0,by simp;exact bU x1⟩,by rw[bW xq];exact q2,cz bx2⟩
 ·refine bA ?_
  delta aI gq
  simp only[↓gk,d0,d1,df,db,QA,VA,e1,ap,pw,VB,VC,as,iso,hv,pp,aq,pv,hE,oN,cE,cD]
 ·exact((c1.mono (by simp)).tr (c2.mono (B:=[1,q,x.1]) (by simp)) (λ_ h _=>h)).tr (Ch.set _) (by simp)
theorem CA(c:Nat){fi d q k:Nat}{j r t:Int}{a:Ac}(q1:q≠1)(hw:a.w="empty"):∀(P:Pl) (g:List aj) (n:Nat) (L:List PV) (x6 x7:Option PV),(P.map (·.1)).Nodup->Wd g (n+P.length)->g[fi]?=some (o8 j d r)->g[q]?=some ⟨.lst,L⟩->(∀x∈P,∃m,g[x.1]?=some (jd m t x.2))->(∀x∈P,d8 x.2=false)->L.length+P.length<=4000 ->
  ∃g' y6 y7,fS (dh 6) (aI (run aM (c+4))) (ly P) ⟨[some (.ref 0),some (.ref fi),some (cK k a),some (.int (-1)),some (.ref q),some (.int t),x6,x7],g⟩=some (.ok .nx,⟨[some (.ref 0),some (.ref fi),some (cK k a),some (.int (-1)),some (.ref q),some (.int t),y6,y7],g'⟩)/\Ch g g' ([1,q]++P.map (·.1))/\Wd g' n/\g'[q]?=some ⟨.lst,L++P.map (·.2)⟩/\∀x∈P,∃m,g'[x.1]?=some (jd m t .aL)
 | [],g,n,L,x6,x7,_,W,hf,hq,hx,hv,hl=>⟨g,x6,x7,rfl,Ch.refl _ _,W,by rw[di,cY];exact hq,λx h=>by cases h⟩
 | x::P,g,n,L,x6,x7,nd,W,hf,hq,hx,hv,hl=>by
  rw[cq]at hl W;rw[aQ,kP]at nd;obtain⟨m,hm⟩:=hx x (by simp)
  obtain⟨g1,e1,c1,w1,u1,b1⟩:=LA c (k:=k) (x7:=x7) (n:=n+P.length) (W.mono (by lia)) hf hq hm q1 hw (hv x (by simp)) (by lia)
  obtain⟨es,h1,_,_⟩:=Wd.add (v:=.aL) (W.mono (k':=0+1) (by lia))
  have n1:∀{i:Nat} {cc:aj},g[i]?=some cc->(∀l,cc≠⟨.lst,l⟩)->i≠x.1->i∉[1,q,x.1]:=λe n z=>by
   simp only[aC,bB,bD,not_or];exact⟨dR e h1 (n _),dR e hq (n _),z⟩
  obtain⟨g2,y6,y7,e2,c2,w2,u2,b2⟩:=CA c (k:=k) (t:=t) q1 hw P g1 n (L++[x.2]) (some (.ref x.1)) (some (ef t)) nd.2 w1 (c1.get hf (n1 hf (by intro l z;cases z) (dR hf hm (by intro z;cases z)))) u1 (λy hy=>by
   obtain⟨m',Kk⟩:=hx y (by simp[hy])
   exact⟨m',c1.get Kk (n1 Kk (by intro l z;cases z) λz=>nd.1 (by rw[<-z];exact uB hy))⟩) (λy hy=>hv y (by simp[hy])) (by simp;lia)
  refine⟨g2,y6,y7,?_,?_,w2,by rw[u2];simp,λy hy=>?_⟩
  ·exact fC (s1:=⟨[some (.ref 0),some (.ref fi),some (cK k a),some (.int (-1)),some (.ref q),some (.int t),some (.ref x.1),x7],g⟩) rfl e1 e2
  ·exact(c1.mono (B:=[1,q]++(x::P).map (·.1)) (by simp)).tr (c2.mono (B:=[1,q]++(x::P).map (·.1)) (by intro z hz;simp only[cR,aQ,aC]at hz ⊢;rcases hz with hz | hz;exact .inl hz;exact .inr (.inr hz))) (λ_ h _=>h)
  ·rcases aC.mp hy with rfl | hy
   ·refine⟨m,c2.get b1 λz=>?_⟩
    rcases cR.mp z with z | z
    ·simp only[aC,bB,bD]at z;rcases z with z | z
     ·exact dR hm h1 (by intro z;cases z) z
     ·exact dR hm hq (by intro z;cases z) z
    ·exact nd.1 z
   ·exact b2 y hy
end bH
set_option maxHeartbeats 4000000
namespace bH
open PySem L2 L2.U
noncomputable def VS(H:List (Str×Nat×Pl))(P:Pl):List (Str×Nat×Pl):=H.map λe=>(e.1,e.2.1,e.2.2.map λx=>(x.1,if x.1∈P.map (·.1)then .aL else x.2))
theorem VT{m t m' t':Int}{v v':PV}(e:jd m t v=jd m' t' v'):t=t':=by
 simp[jd,ef]at e;exact e.2.1
theorem LB(H:List (Str×Nat×Pl))(P:Pl):oK (VS H P)=oK H:=by
 unfold oK VS;simp only[jn,pC]
theorem LC(c:Nat){h:List aj}{fi d k n:Nat}{j r:Int}{H:List (Str×Nat×Pl)}{a:Ac}(R:lJ h fi d j r H)(ft:oM H a)(hw:a.w="empty")(hm:a.m<=2)(nd:((aD H a).map (·.1)).Nodup)(hv:∀x∈aD H a,d8 x.2=false)(W:Wd h (n+2)) :
  ∃h',run aM (c+6) "Boxes.touch" [.ref 0,.ref fi,cK k a] h=some (.ok (cP (aD H a)),h')/\Ch h h' (1::(aD H a).map (·.1))/\Wd h' n/\lJ h' fi d j r (VS H (aD H a)):=by
 have e1:=HG (c+4) R ft (k:=k);have⟨nb,nt,es,h0,h1,_⟩:=W;have pm:(aD H a).length<=2:=by
  obtain⟨P,l,_⟩:=ft;rw[lA l,kN]
  lia
 obtain⟨g,Q,t,i1,i2,i3⟩:=rm R ft;have qN:(h++[(⟨.lst,[]⟩:aj)])[h.length]?=some ⟨.lst,[]⟩:=dv;have l1:=dZ h1;have q1:h.length≠1:=by lia
 obtain⟨h2,y6,y7,e3,c3,w3,u3,b3⟩:=CA c (k:=k) (j:=j) (r:=r) (d:=d) (fi:=fi) (t:=t) (q:=h.length) q1 hw (aD H a) (h++[⟨.lst,[]⟩]) n [] none none nd ((W.ch (Ch.app h [⟨.lst,[]⟩] []) (by simp)).mono (by lia)) (bK R.f) qN (λx hx=>by
  obtain⟨m,hm⟩:=i3 x hx;exact⟨m,bK hm⟩) hv (by simp;lia)
 have ZP:aZ (h++[⟨.lst,[]⟩]) (.ref d) (.str a.x)=some (.ref g):=by
  obtain⟨P,l,_⟩:=ft;have e:=lz R.d l;rw[i1]at e;cases e;exact lz (bK R.d) l
 have d1:=ak (bK (g:=[⟨.lst,[]⟩]) R.f) rfl;have d2:=ak (bK (g:=[⟨.lst,[]⟩]) i2) rfl;have RA:lJ (h++[⟨.lst,[]⟩]) fi d j r H:=⟨bK R.f,bK R.d,λe he=>by
  obtain⟨t,a1,a2⟩:=R.p e he;exact⟨t,bK a1,λx hx=>by obtain⟨m,hm⟩:=a2 x hx;exact⟨m,bK hm⟩⟩,R.l⟩
 have e4:=Qy (c+3) RA ft (k:=k);have hE:=fj h0;have oN:=fj (bK (g:=[⟨.lst,[]⟩]) h0);have nr:∀i l,ao (.ref i::l)=false:=λi l=>jL i l
 have ce:=dC u3 rfl;rw[dH]at ce;have e5:run aM (c+5) "Boxes.touch_boxes" [.ref 0,.ref fi,cK k a,.int (-1)] h=some (.ok (cP (aD H a)),h2.set h.length oA):=by
  revert e3
  delta aI gq
  intro e3;rw[fz];simp only[↓bI,d1,d2,ZP,e4,e3,ce,Ci,oN,nr,aT,aS];rfl
 have mt:=λL=>iL (L:=L) (m:="touch_boxes") h0 (by kernel_rfl)
 have c4:Ch h (h2.set h.length oA) (1::(aD H a).map (·.1)):=by
  have a1:Ch h (h++[⟨.lst,[]⟩]) (1::(aD H a).map (·.1)):=Ch.app _ _ _;refine(a1.tr c3 (λn hn hl=>?_)).tr (Ch.set _) (λn hn hl=>by simp at hn;lia)
  rcases cR.mp hn with hn | hn
  ·simp only[aC,bB,bD]at hn;rcases hn with hn | hn
   ·rw[hn];exact dw
   ·lia
  ·exact cG _ hn
 have no:∀{n:Nat} {cc:aj},h[n]?=some cc->(∀l,cc≠⟨.lst,l⟩)->n∉(aD H a).map (·.1)->n∉1::(aD H a).map (·.1):=λ{n cc} e hc hm z=>by
  rcases aC.mp z with z | z
  ·exact dR e h1 (hc _) z
  ·exact hm z
 have nb:∀{n:Nat} {cc:aj},h[n]?=some cc->(∀m t v,cc≠jd m t v)->n∉(aD H a).map (·.1):=λ{n cc} e hc hm=>by
  obtain⟨x,hx,wO⟩:=bX.mp hm;have wO:x.1=n:=wO;obtain⟨m,hm⟩:=i3 x hx;rw[wO,e]at hm;exact hc m t x.2 (aX hm)
 have nt':h.length∉(aD H a).map (·.1):=λz=>by
  obtain⟨x,hx,wO⟩:=bX.mp z;obtain⟨m,hm⟩:=i3 x hx;have:=dZ hm;have wO:x.1=h.length:=wO
  lia
 refine⟨h2.set h.length oA,?_,c4,w3.ch (Ch.set _) (by simp;lia),⟨c4.get R.f (no R.f (λl z=>by cases z) (nb R.f λm t v z=>by cases z)),?_,λe he=>?_,λe he=>?_⟩⟩
 ·rw[iZ];simp only[↓bI,e1,e5,mt,hE,nr,aT,aS]
 ·rw[LB];exact c4.get R.d (no R.d (λl z=>by unfold oK at z;cases z) (nb R.d λm t v z=>by unfold oK at z;cases z))
 ·obtain⟨e0,Lx,rfl⟩:=bX.mp he;obtain⟨t',a1,a2⟩:=R.p e0 Lx;refine⟨t',?_,λx hx=>?_⟩
  ·have:=c4.get a1 (no a1 (λl z=>by cases z) (nb a1 λm t v z=>by cases z))
   rw[this];simp only[ly,jn,pC]
  ·obtain⟨x0,VQ,rfl⟩:=bX.mp hx;obtain⟨m,hm⟩:=a2 x0 VQ;by_cases MN:x0.1∈(aD H a).map (·.1)
   ·obtain⟨y,hy,Xc⟩:=bX.mp MN;have Xc:y.1=x0.1:=Xc;obtain⟨m2,MA⟩:=i3 y hy;obtain⟨m3,hm3⟩:=b3 y hy;rw[Xc,hm]at MA;have ht:=VT (aX MA);subst ht;rw[Xc]at hm3;have:=dZ hm;exact⟨m3,by simp only[MN,eI];rw[bW (by lia)];exact hm3⟩
   ·refine⟨m,?_⟩;simp only[MN,cJ];exact c4.get hm (no hm (λl z=>by cases z) MN)
 ·obtain⟨e0,Lx,rfl⟩:=bX.mp he;rw[aU];exact R.l e0 Lx
end bH
set_option maxHeartbeats 4000000
namespace bH
open PySem L2 L2.U
def VU(N:Nm):Sp->Ac
 | .i x=>ud N "turn" (.i x)
 | .j x=>ud N "turn" (.j x)
 | s=>ud N "fill" s
theorem QU(N:Nm)(s:Sp):∃wd,(wd="fill"\/wd="turn")/\VU N s=⟨wd,N.n s.x,false,s.f,1,""⟩:=by
 cases s
 case i x=>exact⟨"turn",.inr rfl,rfl⟩
 case j x=>exact⟨"turn",.inr rfl,rfl⟩
 all_goals exact⟨"fill",.inl rfl,rfl⟩
def ix(N:Nm):List Op->List Ac
 | []=>[]
 | o::os=>oO N o++ix N os
noncomputable def IM:Rw->Option Sp
 | .put s _=>some s
 | .fill s _=>some s
 | .set s _ _ _=>some s
 | _=>none
theorem VV(N:Nm)(s:Sp):D7 N s=rX N s++[VU N s]:=by cases s<;>rfl
theorem QV(N:Nm){r:Rw}{s:Sp}(h:IM r=some s):bZ N r=(ix N (bP r)++rX N s)++[VU N s]:=by
 cases r<;>cases h<;>simp[bZ,ix,bP,VV]
theorem LD(x:N5):rn x<=2:=by cases x<;>decide
theorem QW(n:Nat)(V:Vs)(x:N5):∀y∈VR n V x,d8 y.2=false:=by
 cases x<;>simp[VR,gQ,raw,d8,stP]
theorem rJ{N:Nm}(K:bh N)(n:Nat)(V:Vs)(a:Ac):∀y∈aD (Hn N n (raw V)) a,d8 y.2=false:=by
 intro y hy;unfold aD at hy;have hy:=za (zc hy);cases hl:(Hn N n (raw V)).lookup a.x with
 | none=>rw[hl]at hy;cases hy
 | some P =>
  rw[hl]at hy;have hm:=nK hl;have hy:y∈P.2:=hy;unfold Hn at hm;simp at hm;rcases hm with⟨_,rfl⟩ | ⟨_,rfl⟩ | ⟨_,rfl⟩ | ⟨_,rfl⟩ | ⟨_,rfl⟩<;>simp at hy<;>(first | (rcases hy with rfl | rfl<;>rfl) | (subst hy;rfl))
theorem Ia{N:Nm}(K:bh N)(n:Nat)(V:Vs)(s:Sp):(rX N s).map (λa=>cP (aD (Hn N n (raw V)) a))=Et V s:=by
 have e:∀x,(M9 N x).map (λa=>cP (aD (Hn N n (raw V)) a))=IK V x:=λx=>by
  cases x
  case «at» i=>rfl
  case a=>show [cP (aD (Hn N n (raw V)) (M8 N .a))]=_;rw[show aD (Hn N n (raw V)) (M8 N .a)=VR n V .a from j2 K n (raw V) .a "read" "",H0];rfl
  case b=>show [cP (aD (Hn N n (raw V)) (M8 N .b))]=_;rw[show aD (Hn N n (raw V)) (M8 N .b)=VR n V .b from j2 K n (raw V) .b "read" "",H0];rfl
 cases s
 case i x=>exact e x
 case j x=>exact e x
 all_goals rfl
theorem QX{N:Nm}(K:bh N)(n:Nat)(V:Vs)(o:Op):(oO N o).map (λa=>cP (aD (Hn N n (raw V)) a))=yA V o:=by
 cases o with
 | num i=>rfl
 | sp s =>
  show(rX N s++[ud N "read" s]).map _=_;rw[fF,Ia K];show _++[cP (aD (Hn N n (raw V)) ⟨"read",N.n s.x,false,s.f,1,""⟩)]=_;rw[wz K];rfl
theorem wB{N:Nm}(K:bh N)(n:Nat)(V:Vs):∀os:List Op,(ix N os).map (λa=>cP (aD (Hn N n (raw V)) a))=iw V os
 | []=>rfl
 | o::os=>by
  show(oO N o++ix N os).map _=yA V o++iw V os;rw[fF,QX K,wB K n V os]
theorem Nc{N:Nm}(K:bh N)(n:Nat)(V:Vs)(s:Sp):∀a∈rX N s,H9 (Hn N n (raw V)) a:=by
 have e:∀x,∀a∈M9 N x,H9 (Hn N n (raw V)) a:=λx a h=>by
  cases x
  case «at» i=>cases h
  case a=>rw[bz.mp h];exact⟨g9 K n _ .a "read" "",rfl,LD .a,rJ K n V _⟩
  case b=>rw[bz.mp h];exact⟨g9 K n _ .b "read" "",rfl,LD .b,rJ K n V _⟩
 intro a h;cases s
 case i x=>exact e x a h
 case j x=>exact e x a h
 all_goals cases h
theorem Nd{N:Nm}(K:bh N)(n:Nat)(V:Vs)(s:Sp):H9 (Hn N n (raw V)) (ud N "read" s):=⟨iO K n _ s "read" "",rfl,(show 1<=2 by decide),rJ K n V _⟩
theorem VW{N:Nm}(K:bh N)(n:Nat)(V:Vs)(o:Op):∀a∈oO N o,H9 (Hn N n (raw V)) a:=by
 intro a h;cases o with
 | num i=>cases h
 | sp s =>
  rcases cR.mp h with h | h
  ·exact Nc K n V s a h
  ·rw[bz.mp h];exact Nd K n V s
theorem AZ{N:Nm}(K:bh N)(n:Nat)(V:Vs):∀os:List Op,∀a∈ix N os,H9 (Hn N n (raw V)) a
 | [],a,h=>by cases h
 | o::os,a,h=>by
  rcases cR.mp h with h | h
  ·exact VW K n V o a h
  ·exact AZ K n V os a h
theorem rK(N:Nm):∀os:List Op,(ix N os).length<=2*os.length
 | []=>by simp[ix]
 | o::os=>by
  have:=dD N o;have:=rK N os;simp only[ix,bO,cq]
  lia
theorem yC{α:Type}{xs:List α}{v:α}(h:xs.getLast?=some v):L2.rV xs (-1)=some v:=by
 have hp:0<xs.length:=by cases xs with | nil=>cases h | cons=>simp
 unfold L2.rV L2.Dc;rw[if_neg (by lia),if_pos (by lia),jj,show((-1:Int)+xs.length).toNat=xs.length-1 by lia,<-List.getLast?_eq_getElem?]
 exact h
theorem nM{N:Nm}{n:Nat}{A:Ra}:∀e∈Hn N n A,(n<e.2.1/\e.2.1<n+12)/\∀x∈e.2.2,n<x.1/\x.1<n+12:=by
 intro e he;unfold Hn at he;simp at he;rcases he with rfl | rfl | rfl | rfl | rfl<;>simp
theorem iN.lt{h:List aj}{N:Nm}{n r:Nat}{A:Ra}(F:iN h N n r A):n+12<h.length:=dZ F.f
theorem iN.ch{h h':List aj}{B:List Nat}{N:Nm}{n r:Nat}{A:Ra}(F:iN h N n r A)(c:Ch h h' B)(hA:∀a∈B,a<n\/n+12<a):iN h' N n r A :=
 lJ.ch F c (λz=>by have:=hA _ z;lia) (λz=>by have:=hA _ z;lia) λe he=>by
  have:=nM e he;refine⟨λz=>?_,λx hx z=>?_⟩
  ·have:=hA _ z;lia
  ·have:=hA _ z;have:=this;have:=(nM e he).2 x hx
   lia
end bH
set_option maxHeartbeats 4000000
namespace bH
open PySem L2 L2.U
def LF(V:Vs)(r:Rw)(s:Sp):Prop:=((∃o,r=.put s o)/\QQ V s)\/((∃o,r=.fill s o)/\(s=.c\/s=.s))\/((∃w o p,r=.set s w o p)/\QQ V s)
theorem Ea(c:Nat){N:Nm}(K:bh N)(F:List Rw){V:Vs}{g:List aj}{q:Nat}{r:Rw}{s:Sp}{u:PV}(hu:(∀x,s=.i x->u=stP V.c)/\∀x,s=.j x->u=stP V.s)(hz:Vz N V)(hp:wt g (.ref q) (iw V (bP r)++Et V s))(ho:∀o∈bP r,AV V o)(hb:∀o∈bP r,Bd (opV V o))(hE:g.isEmpty=false)
  (hr:LF V r s) (hl:∀v,(Et V s).getLast?=some v->∀L,aZ (g++L) (.ref q) (.int (-1))=some v) :
  run aM (c+8) "written" [fdP N F,bJ N r,.ref q,.lst [u]] g=some (.ok (.lst [R7 N V (AY V r) s]),g++[⟨.lst,jP V r⟩]):=by
 have hs:=hz.h K;have e1:=ZX (c+3) (N:=N) hs hp ho hb ⟨_,rfl⟩ hE (by
  rcases hr with⟨⟨o,h⟩,_⟩ | ⟨⟨o,h⟩,_⟩ | ⟨⟨w,o,p,h⟩,_⟩
  ·exact .inl ⟨s,o,h⟩
  ·exact .inr (.inl ⟨s,o,h⟩)
  ·exact .inr (.inr ⟨s,w,o,p,h⟩))
 have IL:(g++[(⟨.lst,jP V r⟩:aj)]).isEmpty=false:=by cases g<;>rfl
 have main:∀w:Str,w="put"\/w="set"->QQ V s->(∀h,aZ h (bJ N r) (.int 0)=some (.str w))->(∀h,aZ h (bJ N r) (.int 1)=some (gy N s))->run aM (c+8) "written" [fdP N F,bJ N r,.ref q,.lst [u]] g=some (.ok (.lst [R7 N V (AY V r) s]),g++[⟨.lst,jP V r⟩]):=λw hw hA e3 e5=>by
  cases s with
  | c=>exact absurd hA id
  | s=>exact absurd hA id
  | a=>exact wx c hw e1 e3 e5 (λh=>rfl) hE
  | b=>exact wx c hw e1 e3 e5 (λh=>rfl) hE
  | d=>exact wx c hw e1 e3 e5 (λh=>rfl) hE
  | n=>exact wx c hw e1 e3 e5 (λh=>rfl) hE
  | i x =>
   rw[hu.1 x rfl];exact Nb c hw hs.c (hz.c8 K) e1 e3 e5 (λh=>by cases x<;>rfl) (λi e=>by subst e;exact hA) (λv hv=>hl v (by show(IK V x).getLast?=_;rw[hv];rfl) _) hE
  | j x =>
   rw[hu.2 x rfl];exact Nb c hw hs.s (hz.s8 K) e1 e3 e5 (λh=>by cases x<;>rfl) (λi e=>by subst e;exact hA) (λv hv=>hl v (by show(IK V x).getLast?=_;rw[hv];rfl) _) hE
 rcases hr with⟨⟨o,rfl⟩,hA⟩ | ⟨⟨o,rfl⟩,h2⟩ | ⟨⟨w,o,p,rfl⟩,hA⟩
 ·exact main "put" (.inl rfl) hA (λh=>rfl) λh=>rfl
 ·rw[Lq c K h2 e1 hE IL];rcases h2 with rfl | rfl<;>rfl
 ·exact main "set" (.inr rfl) hA (λh=>rfl) λh=>rfl
end bH
set_option maxHeartbeats 4000000
namespace bH
open PySem L2 L2.U
theorem CB(c:Nat){N:Nm}{F:List Rw}{fs:List PV}{cnt:Int}{bF:List Int}{g X:List aj}{n k q r0 b:Nat}{A:Ra}{a:Ac}{row:PV}{Wv:List PV}
  (hR:cF g 2 N F 0 3 4 5 fs cnt bF) (hB:iN g N n r0 A) (W:Wd g (b+2)) (ft:oM (Hn N n A) a) (hw:a.w="fill"\/a.w="turn") (hm:a.m<=2) (hv:a.w≠"fill"->∀x∈aD (Hn N n A) a,d8 x.2=false)
  (hwr:∀g1,Ch g g1 [1]->run aM (c+8) "written" [fdP N F,row,.ref q,cP (aD (Hn N n A) a)] g1=some (.ok (.lst Wv),g1++X)) (ZZ:Wv.length=(aD (Hn N n A) a).length) :
  ∃g',run aM (c+9) "do_act" [.ref 2,.ref (n+12),row,cK k a,.ref q] g=some (.ok (cP (aD (Hn N n A) a)),g')/\Ch g g' (1::(aD (Hn N n A) a).map (·.1))/\Wd g' b/\lJ g' (n+12) n 0 (r0:Int) (Lu (Hn N n A) (aD (Hn N n A) a) Wv):=by
 have tw:Tw a:=.inr hw;have e1:=Cz (c+7) k a tw;obtain⟨g1,e2,c1,w1⟩:=Ck (c+2) (k:=k) (n:=b) hB ft tw hm hv W;have e2:run aM (c+8) "Boxes.touch" [.ref 0,.ref (n+12),cK k a] g=some (.ok (cP (aD (Hn N n A) a)),g1):=e2;have R1:=hR.ch c1 (by simp)
 have B1:=hB.Sb W.l1 c1;have e3:=ak hR.r rfl;have e3a:=ak R1.r rfl;have e3b:=ak (R1.app X).r rfl;have e4:=λL=>W.mt L "touch" (by kernel_rfl)
 have w2:Wd (g1++X) b:=w1.ch (Ch.app g1 _ []) (by simp)
 have Z2:=λL=>w1.mt L "store" (by kernel_rfl)
 have e4c:=λL=>w2.mt L "store" (by kernel_rfl)
 have e5:∀h,F0 false h (.str a.w) (.au [.str "fill",.str "turn"])=some (.bl true):=λh=>by rcases hw with z | z<;>rw[z]<;>rfl
 have e6:=ak B1.f rfl;have e7:∀h,aZ h (.au [fdP N F]) (.int 0)=some (fdP N F):=λh=>rfl
 have hE:=fj hB.f;have oN:=fj B1.f;have e8:=hwr g1 c1;obtain⟨g2,e9,c9,b9⟩:=Lw (c+6) (k:=k) (W:=Wv) (B1.app X) ft ZZ;have HU:=fj (B1.app X).f;have nr:ao [cK k a]=true:=by simp[ao,nV]
 have VX:ao [fdP N F,row,.ref q,cP (aD (Hn N n A) a)]=false:=by simp[ao,noRef]
 refine⟨g2,?_,?_,?_,b9⟩
 ·rw[lu];simp only[↓bI,ub,e1,e2,e3,e3a,e3b,e4,Z2,e4c,e5,e6,e7,e8,e9,hE,oN,HU,nr,VX,nV,aT,aS,cE,cD]
 ·exact((c1.mono (by simp)).tr (Ch.app g1 X []) (by simp)).tr c9 (λm hm _=>cG _ hm)
 ·refine w2.ch c9 ?_;obtain⟨gg,Q,t,i1,i2,i3⟩:=rm B1 ft;obtain⟨nb,nt,es,a0,a1,_⟩:=w1;refine⟨λz=>?_,λz=>?_⟩
  ·obtain⟨x,hx,wO⟩:=bX.mp z;obtain⟨m,hm⟩:=i3 x hx;have wO:x.1=0:=wO;rw[wO,a0]at hm;cases hm
  ·obtain⟨x,hx,wO⟩:=bX.mp z;obtain⟨m,hm⟩:=i3 x hx;have wO:x.1=1:=wO;rw[wO,a1]at hm;cases hm
end bH
set_option maxHeartbeats 4000000
namespace bH
open PySem L2 L2.U
theorem LG{N:Nm}{n:Nat}{A:Ra}{a:Ac}(ft:oM (Hn N n A) a):∀m∈(aD (Hn N n A) a).map (·.1),n<m/\m<n+12:=by
 intro m hm;obtain⟨x,hx,rfl⟩:=bX.mp hm;obtain⟨P,l,_⟩:=ft;rw[lA l]at hx;exact(nM _ (nK l)).2 x (za (zc hx))
theorem ug(c:Nat){N:Nm}{F:List Rw}{fs:List PV}{cnt:Int}{bF:List Int}{h X:List aj}{n k r0 b:Nat}{A:Ra}{r:Rw}{B:List Ac}{a:Ac}{Wv:List PV}
  (hR:cF h 2 N F 0 3 4 5 fs cnt bF) (hB:iN h N n r0 A) (W:Wd h (b+12)) (Z4:bZ N r=B++[a]) (Al:B.length<=5) (En:∀a∈B,H9 (Hn N n A) a)
  (ft:oM (Hn N n A) a) (hw:a.w="fill"\/a.w="turn") (hm:a.m<=2) (hv:a.w≠"fill"->∀x∈aD (Hn N n A) a,d8 x.2=false)
  (hwr:∀g1,g1[h.length]?=some ⟨.lst,B.map λa=>cP (aD (Hn N n A) a)⟩->run aM (c+8) "written" [fdP N F,bJ N r,.ref h.length,cP (aD (Hn N n A) a)] g1=some (.ok (.lst Wv),g1++X)) (ZZ:Wv.length=(aD (Hn N n A) a).length) :
  ∃v h',run aM (c+10) "do_acts" [.ref 2,.ref (n+12),bJ N r,.lst ((bZ N r).map (cK k))] h=some (.ok v,h')/\Ch h h' (1::(aD (Hn N n A) a).map (·.1))/\Wd h' b/\lJ h' (n+12) n 0 (r0:Int) (Lu (Hn N n A) (aD (Hn N n A) a) Wv):=by
 have ln:=iN.lt hB;have l5:5<h.length:=dZ hR.sd;obtain⟨G,hG⟩:∃G,G=B.map (λa=>cP (aD (Hn N n A) a)):=⟨_,rfl⟩
 have Gl:G.length<=5:=by rw[hG,aU];exact Al
 obtain⟨g1,y5,e1,c1,q1,w1⟩:=lC (c+2) (k:=k) (row:=bJ N r) (so:=.lst ((bZ N r).map (cK k))) hR hB W.l1 B [] (h++[⟨.lst,[]⟩]) none (b+2) (Ch.app _ _ _) dv ((W.ch (Ch.app h _ []) (by simp)).mono (by lia)) En (by simp;lia)
 have e1:=e1 [cK k a];rw[dH,<-hG]at q1;rw[show B.map (cK k)++[cK k a]=(bZ N r).map (cK k) by rw[Z4];simp]at e1
 have R1:=hR.ch c1 (by simp)
 have B1:=hB.Sb W.l1 c1;obtain⟨g2,e2,c2,w2,b2⟩:=CB c (k:=k) (q:=h.length) (row:=bJ N r) R1 B1 w1 ft hw hm hv (λg' cg=>hwr g' (by rw[<-hG];exact cg.get q1 (by simp;lia))) ZZ
 have aa:=LG ft;have Xd:h.length∉1::(aD (Hn N n A) a).map (·.1):=λz=>by
  rcases aC.mp z with z | z
  ·lia
  ·have:=aa _ z;lia
 have q2:=c2.get q1 Xd;have a1:=λρ v=>eZ (ρ:=ρ) (v:=v) q2 (by lia)
 have d0:=ak q1 rfl;have d1:=ak q2 rfl;obtain⟨g3,Z5⟩:∃g3,g3=g2.set h.length ⟨.lst,G++[cP (aD (Hn N n A) a)]⟩:=⟨_,rfl⟩
 have q3:g3[h.length]?=some ⟨.lst,G++[cP (aD (Hn N n A) a)]⟩:=by rw[Z5];exact cz q2
 have a1:∀ρ,fu (dN fw) (.ref h.length) [cP (aD (Hn N n A) a)] ⟨ρ,g2⟩=some (.ok .aL,⟨ρ,g3⟩):=λρ=>by rw[Z5];exact a1 ρ _
 have e3:=dC q3 rfl;have hE:=fj q1;have HU:=fj q2;have nr:∀l,ao (.ref 2::l)=false:=jL 2
 have c3:Ch g2 (g3.set h.length oA) [h.length]:=by rw[Z5];exact(Ch.set _).tr (Ch.set _) (λ_ h _=>h)
 refine⟨.lst (G++[cP (aD (Hn N n A) a)]),g3.set h.length oA,?_,?_,w2.ch c3 (by simp;lia),?_⟩
 ·have e4:fS (dh 5) (cO (run aM (c+9))) [cK k a] ⟨[some (.ref 2),some (.ref (n+12)),some (bJ N r),some (.lst ((bZ N r).map (cK k))),some (.ref h.length),y5],g1⟩=some (.ok .nx,⟨[some (.ref 2),some (.ref (n+12)),some (bJ N r),some (.lst ((bZ N r).map (cK k))),some (.ref h.length),some (cK k a)],g3⟩):=by
   refine bA ?_
   delta cO gq
   simp only[↓gk,e2,a1,d0,d1,hE,HU,nr,aT,aS]
  have e5:=e1.trans e4
  revert e5
  delta cO gq
  intro e5;rw[jK];simp only[↓bI,e5,e3]
 ·exact((c1.mono (by simp)).tr c2 (λ_ h _=>h)).tr c3 (λm hm hl=>by rw[bz]at hm;lia)
 ·refine lJ.ch b2 c3 (by simp;lia) (by simp;lia) λe he=>?_
  obtain⟨e0,Lx,rfl⟩:=bX.mp he;have:=nM e0 Lx;refine⟨by simp only[bz];lia,λx hx=>?_⟩
  obtain⟨x0,VQ,rfl⟩:=bX.mp hx;have:=this.2 x0 VQ;simp only[bz]
  lia
end bH
set_option maxHeartbeats 4000000
namespace bH
open PySem L2 L2.U
noncomputable def wQ(A:Ra):N5->Ra
 | .a=>{A with a:=.aL}
 | .b=>{A with b:=.aL}
 | .c=>{A with c:=.aL}
 | .d=>{A with d:=.aL}
 | .e=>{A with n:=.aL,s:=.aL}
theorem VY(N:Nm)(n:Nat)(A:Ra)(x:N5):VS (Hn N n A) (gQ n A x)=Hn N n (wQ A x):=by
 cases x<;>simp[VS,Hn,gQ,wQ]
theorem VZ(N:Nm)(n:Nat)(A:Ra)(x:N5):Lu (Hn N n (wQ A x)) (gQ n (wQ A x) x) ((gQ n A x).map (·.2))=Hn N n A:=by
 cases x<;>simp[Lu,Hn,gQ,wQ,newV]
theorem V0(n:Nat)(A:Ra)(x:N5):((gQ n A x).map (·.1)).Nodup:=by cases x<;>simp[gQ]
theorem QY(n:Nat)(A B:Ra)(x:N5):(gQ n A x).map (·.1)=(gQ n B x).map (·.1):=by cases x<;>rfl
theorem V6(n:Nat)(A B:Ra)(x:N5):(gQ n A x).length=(gQ n B x).length:=by cases x<;>rfl
theorem Ib(c:Nat)(k:Nat)(N:Nm)(x:N5):run aM (c+1) "is_lending" [cK k (AU N "empty" x)] []=some (.ok (.bl false),[]):=by
 cases x<;>kernel_rfl
theorem LH(c:Nat){N:Nm}(K:bh N){F:List Rw}{fs:List PV}{cnt:Int}{bF:List Int}{g:List aj}{n k q r0 b:Nat}{A:Ra}{x:N5}{row:PV}
  (hR:cF g 2 N F 0 3 4 5 fs cnt bF) (hB:iN g N n r0 A) (W:Wd g (b+2)) (hv:∀y∈gQ n A x,d8 y.2=false) :
  ∃g',run aM (c+9) "do_act" [.ref 2,.ref (n+12),row,cK k (AU N "empty" x),.ref q] g=some (.ok (cP (gQ n A x)),g')/\Ch g g' (1::(gQ n A x).map (·.1))/\Wd g' b/\iN g' N n r0 (wQ A x):=by
 have e1:=Ib (c+7) k N x;have pl:aD (Hn N n A) (AU N "empty" x)=gQ n A x:=j2 K n A x "empty" "";obtain⟨g1,e2,c1,w1,b1⟩:=LC (c+2) (k:=k) (n:=b) (a:=AU N "empty" x) hB (g9 K n A x "empty" "") rfl (LD x) (by rw[pl];exact V0 n A x) (by rw[pl];exact hv) W
 rw[pl]at e2 c1 b1;rw[VY]at b1;have e2:run aM (c+8) "Boxes.touch" [.ref 0,.ref (n+12),cK k (AU N "empty" x)] g=some (.ok (cP (gQ n A x)),g1):=e2;have e3:=ak hR.r rfl;have e4:=λL=>W.mt L "touch" (by kernel_rfl)
 have e5:∀h,F0 false h (.str "empty") (.au [.str "fill",.str "turn"])=some (.bl false):=λh=>rfl
 have e6:∀h,aZ h (cK k (AU N "empty" x)) (.int 1)=some (.str "empty"):=λh=>rfl
 have hE:=fj hB.f;have oN:=fj b1.f;have nr:ao [cK k (AU N "empty" x)]=true:=by simp[ao,nV]
 refine⟨g1,?_,c1,w1,b1⟩;rw[lu];simp only[↓bI,e1,e2,e3,e4,e5,e6,hE,oN,nr,nV,aT,aS,cE,cD]
theorem Ic(c:Nat){N:Nm}(K:bh N){F:List Rw}{fs:List PV}{cnt:Int}{bF:List Int}{h:List aj}{n k r0 b:Nat}{A:Ra}{x:N5}
  (hR:cF h 2 N F 0 3 4 5 fs cnt bF) (hB:iN h N n r0 A) (W:Wd h (b+12)) (hv:∀y∈gQ n A x,d8 y.2=false) :
  ∃v h',run aM (c+10) "do_acts" [.ref 2,.ref (n+12),bJ N (.gU x),.lst ((bZ N (.gU x)).map (cK k))] h=some (.ok v,h')/\Ch h h' (1::(gQ n A x).map (·.1))/\Wd h' b/\iN h' N n r0 A:=by
 have ln:=iN.lt hB;have l5:5<h.length:=dZ hR.sd;have aa:∀m∈(gQ n A x).map (·.1),n<m/\m<n+12:=by cases x<;>simp[gQ]
 have Xd:h.length∉1::(gQ n A x).map (·.1):=λz=>by
  rcases aC.mp z with z | z
  ·lia
  ·have:=aa _ z;lia
 have R0:=hR.app [⟨.lst,[]⟩];have B0:iN (h++[⟨.lst,[]⟩]) N n r0 A:=lJ.app _ hB;have q0:(h++[(⟨.lst,[]⟩:aj)])[h.length]?=some ⟨.lst,[]⟩:=dv;obtain⟨g1,e1,c1,w1,b1⟩:=LH c K (k:=k) (q:=h.length) (x:=x) (row:=bJ N (.gU x)) (b:=b+2) R0 B0 ((W.ch (Ch.app h _ []) (by simp)).mono (by lia)) hv
 have q1:=c1.get q0 Xd;obtain⟨g2,wL⟩:∃g2,g2=g1.set h.length ⟨.lst,[cP (gQ n A x)]⟩:=⟨_,rfl⟩
 have c2:Ch g1 g2 [h.length]:=by rw[wL];exact Ch.set _
 have q2:g2[h.length]?=some ⟨.lst,[cP (gQ n A x)]⟩:=by rw[wL];exact cz q1
 have n4:∀m:Nat,m=2\/m=3\/m=4\/m=5->m<h.length:=λm hm=>by lia
 have n6:n<=n:=aF n;have R1:cF g1 2 N F 0 3 4 5 fs cnt bF:=by
  refine R0.ch c1 ?_;have no:∀m,(∃cc,(h++[(⟨.lst,[]⟩:aj)])[m]?=some cc/\∀mm t v,cc≠jd mm t v)->m≠1->m∉1::(gQ n A x).map (·.1):=by
   rintro m ⟨cc,e,hc⟩ h1 z
   rcases aC.mp z with z | z
   ·exact h1 z
   ·obtain⟨y,hy,Z6⟩:=bX.mp z;have Z6:y.1=m:=Z6;obtain⟨t,_,a2⟩:=B0.p _ (nK (QS K n A x));obtain⟨mm,hm⟩:=a2 y hy;rw[Z6,e]at hm;exact hc mm t y.2 (aX hm)
  exact⟨no 2 ⟨_,R0.r,λmm t v z=>by cases z⟩ (by decide),no 3 ⟨_,R0.nu,λmm t v z=>by cases z⟩ (by decide),no 4 ⟨_,R0.fl,λmm t v z=>by cases z⟩ (by decide),no 5 ⟨_,R0.sd,λmm t v z=>by cases z⟩ (by decide)⟩
 have R2:=R1.ch c2 (by simp;lia)
 have B2:iN g2 N n r0 (wQ A x):=iN.ch b1 c2 (by simp;lia)
 have W2:Wd g2 (b+2):=w1.ch c2 (by simp;lia)
 have pl:aD (Hn N n (wQ A x)) (AU N "fill" x)=gQ n (wQ A x) x:=j2 K n (wQ A x) x "fill" "";have hwr:∀g',Ch g2 g' [1]->run aM (c+8) "written" [fdP N F,bJ N (.gU x),.ref h.length,cP (aD (Hn N n (wQ A x)) (AU N "fill" x))] g'=some (.ok (.lst ((gQ n A x).map (·.2))),g'++[]):=λg' cg=>by
  have q3:=cg.get q2 (by simp;lia)
  rw[cY];exact Ls c (by have d:=ak q3 rfl;simp only[aZ,d];rfl)
 obtain⟨g3,e3,c3,w3,b3⟩:=CB c (k:=k) (q:=h.length) (row:=bJ N (.gU x)) (a:=AU N "fill" x) R2 B2 W2 (g9 K n (wQ A x) x "fill" "") (.inl rfl) (LD x) (λz=>absurd rfl z) hwr (by rw[pl,aU];exact V6 n A (wQ A x) x)
 rw[pl]at e3 c3 b3;rw[VZ]at b3;rw[QY n (wQ A x) A x]at c3;have q3:=c3.get q2 Xd;have a1:∀ρ,fu (dN fw) (.ref h.length) [cP (gQ n A x)] ⟨ρ,g1⟩=some (.ok .aL,⟨ρ,g2⟩):=λρ=>by rw[wL];exact eZ q1 (by simp)
 obtain⟨g4,Z7⟩:∃g4,g4=g3.set h.length ⟨.lst,[cP (gQ n A x),cP (gQ n (wQ A x) x)]⟩:=⟨_,rfl⟩
 have q4:g4[h.length]?=some ⟨.lst,[cP (gQ n A x),cP (gQ n (wQ A x) x)]⟩:=by rw[Z7];exact cz q3
 have a2:∀ρ,fu (dN fw) (.ref h.length) [cP (gQ n (wQ A x) x)] ⟨ρ,g3⟩=some (.ok .aL,⟨ρ,g4⟩):=λρ=>by rw[Z7];exact eZ q3 (by simp)
 have d0:=ak q0 rfl;have d1:=ak q1 rfl;have d2:=ak q2 rfl;have d3:=ak q3 rfl;have ZV:=fj q0;have oN:=fj q1;have HU:=fj q2;have ZW:=fj q3;have nr:∀l,ao (.ref 2::l)=false:=jL 2
 have ce:=dC q4 rfl;have c4:Ch g3 (g4.set h.length oA) [h.length]:=by rw[Z7];exact(Ch.set _).tr (Ch.set _) (λ_ h _=>h)
 refine⟨.lst [cP (gQ n A x),cP (gQ n (wQ A x) x)],g4.set h.length oA,?_,?_,w3.ch c4 (by simp;lia),iN.ch b3 c4 (by simp;lia)⟩
 ·rw[jK];show _=_;have rw2:(bZ N (.gU x)).map (cK k)=[cK k (AU N "empty" x),cK k (AU N "fill" x)]:=rfl;rw[rw2];simp only[↓bI,e1,e3,a1,a2,d0,d1,d2,d3,ZV,oN,HU,ZW,nr,ce,aT,aS]
 ·have u1:Ch h g1 (1::(gQ n A x).map (·.1)):=(Ch.app h [⟨.lst,[]⟩] _).tr c1 (λ_ h _=>h)
  have u2:=u1.tr c2 (λm hm hl=>by rw[bz]at hm;lia)
  have u3:=u2.tr c3 (λ_ h _=>h)
  exact u3.tr c4 (λm hm hl=>by rw[bz]at hm;lia)
end bH
set_option maxHeartbeats 4000000
namespace bH
open PySem L2 L2.U
theorem Ie(c:Nat){N:Nm}(K:bh N){F:List Rw}{fs:List PV}{cnt:Int}{bF:List Int}{h:List aj}{n k r0 b:Nat}{A:Ra}{V:Vs}{r:Rw}{s:Sp}
  (hR:cF h 2 N F 0 3 4 5 fs cnt bF) (hB:iN h N n r0 A) (W:Wd h (b+12)) (hz:Vz N V) (ht:IM r=some s) (hr:LF V r s) (ho:∀o∈bP r,AV V o) (hb:∀o∈bP r,Bd (opV V o))
  (En:∀a∈ix N (bP r)++rX N s,H9 (Hn N n A) a) (hv:(ix N (bP r)++rX N s).map (λa=>cP (aD (Hn N n A) a))=iw V (bP r)++Et V s) (hA:(∀x,s=.i x->A.c=stP V.c)/\∀x,s=.j x->A.s=stP V.s) :
  ∃v h',run aM (c+10) "do_acts" [.ref 2,.ref (n+12),bJ N r,.lst ((bZ N r).map (cK k))] h=some (.ok v,h')/\Ch h h' [1,Eu n s]/\Wd h' b/\iN h' N n r0 (fg A (R7 N V (AY V r) s) s):=by
 obtain⟨wd,hwd,ea⟩:=QU N s;have pl:aD (Hn N n A) (VU N s)=[(Eu n s,R8 A s)]:=by rw[ea];exact rH K n A s wd ""
 have Al:(ix N (bP r)++rX N s).length<=5:=by
  have:=rK N (bP r);have:=rF r;have:=jY N s;rw[bO];lia
 have l5:5<h.length:=dZ hR.sd;obtain⟨v,h',e,c1,w1,b1⟩:=ug c (k:=k) (r:=r) (B:=ix N (bP r)++rX N s) (a:=VU N s) (Wv:=[R7 N V (AY V r) s]) (X:=[⟨.lst,jP V r⟩]) hR hB W (QV N ht) Al En (by rw[ea];exact iO K n A s wd "") (by rw[ea];rcases hwd with rfl | rfl;exact .inl rfl;exact .inr rfl) (by rw[ea];exact(show 1<=2 by decide)) (λhf x hx=>by
  rw[pl,bz]at hx;rw[hx];cases s with
  | i x=>rw[show R8 A (.i x)=A.c from rfl,hA.1 x rfl];rfl
  | j x=>rw[show R8 A (.j x)=A.s from rfl,hA.2 x rfl];rfl
  | _=>exact absurd rfl hf) (λg1 hg=>by
  rw[hv]at hg;rw[pl];exact Ea c K F (u:=R8 A s) ⟨λx hx=>by rw[hx];exact hA.1 x hx,λx hx=>by rw[hx];exact hA.2 x hx⟩ hz ⟨λi v L hi=>by
   have d:=ak (bK (g:=L) hg) rfl;simp only[aZ,d];exact atI_nat hi⟩ ho hb (fj hg) hr λv X2 L=>by
   have d:=ak (bK (g:=L) hg) rfl;simp only[aZ,d];exact yC (by rw[List.getLast?_append,X2];rfl)) (by rw[pl];rfl)
 rw[pl]at c1 b1;rw[yB]at b1;exact⟨v,h',e,c1,w1,b1⟩
noncomputable def Ig:Sp->Bool
 | .c=>true
 | .s=>true
 | _=>false
noncomputable def Eb:Sp->Bool
 | .a=>true
 | .b=>true
 | .d=>true
 | .n=>true
 | _=>false
def Z8(V:Vs)(s t:Sp):Vs:=match s with
 | .a=>{V with a:=R6 V t}
 | .b=>{V with b:=R6 V t}
 | .d=>{V with d:=R6 V t}
 | .n=>{V with n:=R6 V t}
 | .c=>{V with c:=gr V t}
 | .s=>{V with s:=gr V t}
 | _=>V
theorem Ih(V:Vs){s t:Sp}(h:(Eb s=true/\Eb t=true)\/(Ig s=true/\Ig t=true)):fg (raw V) (sL V t) s=raw (Z8 V s t):=by
 rcases h with⟨h1,h2⟩ | ⟨h1,h2⟩<;>cases s<;>cases t<;>(first | rfl | exact absurd h1 cf | exact absurd h2 cf)
def c6(N:Nm)(V:Vs):Rw->Vs
 | .put s o=>wA N V (opV V o) s
 | .fill s o=>wA N V (opV V o) s
 | .set s g o p=>wA N V (QP g (opV V o) (opV V p)) s
 | .eR s t=>Z8 V s t
 | _=>V
theorem QZ(c:Nat){N:Nm}(K:bh N){F:List Rw}{fs:List PV}{cnt:Int}{bF:List Int}{h:List aj}{n k r0 b:Nat}{V:Vs}{s t:Sp}
  (hR:cF h 2 N F 0 3 4 5 fs cnt bF) (hB:iN h N n r0 (raw V)) (W:Wd h (b+12)) (hs:(Eb s=true/\Eb t=true)\/(Ig s=true/\Ig t=true)) :
  ∃v h',run aM (c+10) "do_acts" [.ref 2,.ref (n+12),bJ N (.eR s t),.lst ((bZ N (.eR s t)).map (cK k))] h=some (.ok v,h')/\Ch h h' [1,Eu n s]/\Wd h' b/\iN h' N n r0 (raw (Z8 V s t)):=by
 have pl:aD (Hn N n (raw V)) (ud N "fill" s)=[(Eu n s,sL V s)]:=wz K n V s "fill" "";have pt:aD (Hn N n (raw V)) (ud N "read" t)=[(Eu n t,sL V t)]:=wz K n V t "read" "";obtain⟨v,h',e,c1,w1,b1⟩:=ug c (k:=k) (r:=.eR s t) (B:=[ud N "read" t]) (a:=ud N "fill" s) (Wv:=[sL V t]) (X:=[]) hR hB W rfl (by simp) (λa ha=>by rw[bz.mp ha];exact Nd K n V t) (iO K n _ s "fill" "") (.inl rfl) (show 1<=2 by decide) (λz=>absurd rfl z) (λg1 hg=>by
  rw[cY];refine Lr c ?_;have d:=ak hg rfl;simp only[aZ,d,aQ,di,pt];rfl) (by rw[pl];rfl)
 rw[pl]at c1 b1;rw[yB,Ih V hs]at b1;exact⟨v,h',e,c1,w1,b1⟩
end bH
set_option maxHeartbeats 4000000
namespace bH
open PySem L2 L2.U
structure A0 (h:List aj) (N:Nm) (F:List Rw) (fs:List PV) (cnt:Int) (bF:List Int) (n r0:Nat) (A:Ra) (r:Rw):Prop where
 R:cF h 2 N F 0 3 4 5 (fs++[.ref (n+12)]) cnt bF
 B:iN h N n r0 A
 r:F[r0]?=some r
variable {h:List aj} {N:Nm} {F:List Rw} {fs:List PV} {cnt:Int} {bF:List Int} {n r0:Nat} {A:Ra} {r:Rw}
theorem yD(c:Nat)(T:A0 h N F fs cnt bF n r0 A r):run aM (c+1) "row_of" [.ref 2,.ref (n+12)] h=some (.ok (bJ N r),h):=by
 rw[AL];have e1:=ak T.R.r rfl;have e2:=ak T.B.f rfl;have e3:∀h,aZ h (.au [fdP N F]) (.int 0)=some (fdP N F):=λh=>rfl
 have e4:∀h,aZ h (fdP N F) (.int 4)=some (.au (F.map (bJ N))):=λh=>rfl
 have e5:∀h,aZ h (.au (F.map (bJ N))) (.int (r0:Int))=some (bJ N r):=λh=>atI_nat (by rw[cQ,T.r];rfl)
 simp only[↓bI,e1,e2,e3,e4,e5]
theorem uh(c:Nat)(T:A0 h N F fs cnt bF n r0 A r):run aM (c+1) "acts_of" [.ref 2,.ref (n+12)] h=some (.ok (.lst ((bZ N r).map (cK r0))),h):=by
 rw[yl];have e1:=ak T.R.r rfl;have e2:=ak T.B.f rfl;have e3:∀h,aZ h (.lst [Dx N F]) (.int 0)=some (Dx N F):=λh=>rfl
 have e5:∀h,aZ h (Dx N F) (.int (r0:Int))=some (.lst ((bZ N r).map (cK r0))):=λh=>atI_nat (by rw[cQ,HL N F 0 r0 r T.r,uS];rfl)
 simp only[↓bI,e1,e2,e3,e5]
def lD(V:Vs)(k:Nat):Rw->Nat
 | .go j=>j
 | .ifs o p j=>if opV V o<opV V p then j else k+1
 | _=>k+1
def ui(V:Vs):Rw->List Int
 | .j9 o=>[opV V o]
 | _=>[]
theorem CD{ps:List PV}(h:ao ps=true):gM [⟨.lst,ps⟩] (.ref 0)=some (.lst ps):=rA h
theorem Q4(V:Vs)(o:Op):ao (yA V o)=true:=by
 cases o with
 | num i=>rfl
 | sp s =>
  have h1:∀s:List Int,noRef (stP s)=true:=λs=>QB (fO (λ_=>rfl) s)
  cases s
  case i x=>cases x<;>simp[yA,Et,IK,sL,ao,noRef,h1]
  case j x=>cases x<;>simp[yA,Et,IK,sL,ao,noRef,h1]
  all_goals simp[yA,Et,sL,ao,noRef,h1]
theorem A1{A B:List PV}(h1:ao A=true)(h2:ao B=true):ao (A++B)=true:=by
 induction A with
 | nil=>exact h2
 | cons a A ih =>
  simp only[ao,aJ]at h1;rw[kO,ao,h1.1,ih h1.2];rfl
theorem A2(V:Vs):∀os,ao (iw V os)=true
 | []=>rfl
 | o::os=>A1 (Q4 V o) (A2 V os)
theorem Nf(c:Nat){V:Vs}(hs:Hs V)(ho:∀o∈bP r,AV V o):run aM (c+3) "numbers_found" [bJ N r,.lst (iw V (bP r))] []=some (.ok (.ref 0),[⟨.lst,jP V r⟩]):=by
 have:=VP c (N:=N) (V:=V) (g:=[]) (p:=.lst (iw V (bP r))) (G:=iw V (bP r)) (r:=r) hs ⟨λi v L hi=>atI_nat hi⟩ ho ⟨[],by simp⟩
 exact this
theorem Ij(V:Vs)(r:Rw):ao (jP V r)=true:=fO (λ_=>rfl) _
theorem yE(c:Nat){V:Vs}{found:PV}(T:A0 h N F fs cnt bF n r0 A r)(hs:Hs V)(ho:∀o∈bP r,AV V o)(hf:(∃o p k,r=.ifs o p k)->found=.lst (iw V (bP r)))(hg:r≠.cV) :
  run aM (c+4) "row_behind" [.ref (n+12),bJ N r,found] h=some (.ok (.int (lD V r0 r:Int)),h):=by
 rw[q9];have e1:=λh=>Co (h:=h) N r
 have e2:=ak T.B.f rfl;have e3:∀h,gh h (.int (r0:Int)) (.int 1)=some (.int ((r0+1:Nat):Int)):=λh=>rfl
 cases r
 case cV=>exact absurd rfl hg
 case go k=>simp only[↓bI,e1];rfl
 case ifs o p k =>
  have hfo:=hf ⟨o,p,k,rfl⟩;subst hfo;have e4:=Nf c (N:=N) hs ho;have nr:ao [bJ N (.ifs o p k),.lst (iw V (bP (.ifs o p k)))]=true:=by simp only[ao,uc,wa (A2 _ _),pQ]
  have e5:=CD (Ij V (.ifs o p k));have i0:∀h,aZ h (.lst (jP V (.ifs o p k))) (.int 0)=some (.int (opV V o)):=λh=>rfl
  have i1:∀h,aZ h (.lst (jP V (.ifs o p k))) (.int 1)=some (.int (opV V p)):=λh=>rfl
  have i2:∀h x y,TX h (.int x) (.int y)=some (.bl (decide (x<y))):=λh x y=>rfl
  by_cases oX:opV V o<opV V p
  ·have hd:=eS oX;simp only[↓bI,e1,e4,e5,nr,i0,i1,i2,hd,lD,if_pos oX,cE,cD]
  ·have hd:=dz oX;simp only[↓bI,e1,e2,e3,e4,e5,nr,i0,i1,i2,hd,lD,if_neg oX,cE,cD]
 all_goals (simp only[↓bI,e1,e2,e3,lD])
end bH
set_option maxHeartbeats 4000000
namespace bH
open PySem L2 L2.U
variable {h:List aj} {N:Nm} {F:List Rw} {fs:List PV} {cnt:Int} {bF:List Int} {n r0:Nat} {A:Ra} {r:Rw}
abbrev yN(h:List aj)(N:Nm)(F:List Rw)(fs:List PV)(cnt:Int)(bF:List Int):Prop:=cF h 2 N F 0 3 4 5 fs cnt bF
noncomputable def yF(n:Nat):List Nat:=[1,n+1,n+2,n+3,n+4,n+5,n+6,n+7,n+8,n+9,n+10,n+11]
theorem CF{h:List aj}{i d:Nat}{j r x:Int}{ρ:List (Option PV)}(e:h[i]?=some (o8 j d r)):ee eL eM "row" (.ref i) (.int x) ⟨ρ,h⟩=some ⟨ρ,h.set i (o8 j d x)⟩:=by
 rw[eu e (by kernel_rfl)]
 rfl
theorem wC{h:List aj}{i:Nat}{pr li:PV}{w nu fl sd:Nat}{x y:Int}{ρ:List (Option PV)}(e:h[i]?=some (IJ pr w nu li fl sd x)):ee eL eM "count" (.ref i) (.int y) ⟨ρ,h⟩=some ⟨ρ,h.set i (IJ pr w nu li fl sd y)⟩:=by
 rw[eu e (by kernel_rfl)]
 rfl
theorem iN.row{h:List aj}{N:Nm}{n r:Nat}{A:Ra}(B:iN h N n r A)(k:Nat):iN (h.set (n+12) (o8 0 n (k:Int))) N n k A :=
 ⟨cz B.f,by rw[bW (by lia)];exact B.d,λe he=>(B.p e he).ch (Ch.set _) (by rw[bz];have:=(nM e he).1;lia) (λx hx=>by rw[bz];have:=(nM e he).2 x hx;lia),B.l⟩
theorem cF.iP(hR:yN h N F fs cnt bF)(y:Int):yN (h.set 2 (IJ (.au [fdP N F]) 0 3 (.lst [Dx N F]) 4 5 y)) N F fs y bF :=
 ⟨cz hR.r,by rw[bW (by decide)];exact hR.nu,by rw[bW (by decide)];exact hR.fl,by rw[bW (by decide)];exact hR.sd⟩
theorem CG{h:List aj}{i:Nat}{fs:List PV}{p:PV}(e:h[i]?=some ⟨.lst,fs++[p]⟩):aZ h (.ref i) (.int (-1))=some p:=by
 have d:=ak e rfl;simp only[aZ,d];exact yC (by simp)
theorem Q5{h:List aj}{n:Nat}{L R:List PV}{ρ:List (Option PV)}(e:h[n]?=some ⟨.lst,L⟩)(hl:L.length+R.length<=1000000):ow (.ref n) [.lst R] ⟨ρ,h⟩=some (.ok .aL,⟨ρ,h.set n ⟨.lst,L++R⟩⟩):=by
 show(fu (dN λps _=>if ps.length+R.length<=ic then some (ps++R)else none) (.ref n) [] ⟨ρ,h⟩)=_
 have e1:(if L.length+R.length<=ic then some (L++R)else none)=some (L++R):=if_pos (aY hl (by decide))
 show((i9 h (.ref n)).bind λc=>(dN (λps _=>if ps.length+R.length<=ic then some (ps++R)else none) c.2 []).map λr=>_)=_
 rw[dC e rfl];show(((if L.length+R.length<=ic then some (L++R)else none).map λqs=>((⟨.lst,qs⟩:aj),PV.aL)).map λr=>_)=_
 rw[e1];rfl
structure yG (N:Nm) (V:Vs) (r:Rw):Prop where
 o:∀o∈bP r,AV V o/\Bd (opV V o)
 t:∀s,IM r=some s->LF V r s
 c:∀s t,r=.eR s t->(Eb s=true/\Eb t=true)\/(Ig s=true/\Ig t=true)
 g:r≠.cV
noncomputable def V7:Rw->Bool
 | .j9 _=>true
 | .ifs _ _ _=>true
 | _=>false
def lE(c:Nat)(h:List aj)(N:Nm)(n r0 b:Nat)(A':Ra)(V:Vs)(r:Rw):Prop :=
  ∃v h',run aM (c+10) "do_acts" [.ref 2,.ref (n+12),bJ N r,.lst ((bZ N r).map (cK r0))] h=some (.ok v,h')/\Ch h h' (yF n)/\Wd h' b/\iN h' N n r0 A'/\(V7 r=true->v=.lst (iw V (bP r)))
theorem A3(n:Nat)(s:Sp):∀m∈[1,Eu n s],m∈yF n:=by
 intro m hm;simp only[aC,bB,bD]at hm;rcases hm with rfl | rfl
 ·simp[yF]
 ·cases s<;>simp[Eu,yF]
theorem Ik(N:Nm)(V:Vs){r:Rw}{s:Sp}(h:IM r=some s):c6 N V r=wA N V (AY V r) s:=by
 cases r<;>cases h<;>rfl
theorem A4(c:Nat)(K:bh N){b:Nat}{V:Vs}(T:A0 h N F fs cnt bF n r0 (raw V) r)(W:Wd h (b+12))(hz:Vz N V)(ok:yG N V r):lE c h N n r0 b (raw (c6 N V r)) V r:=by
 have reads:∀(e:bZ N r=ix N (bP r)) (q:c6 N V r=V),lE c h N n r0 b (raw (c6 N V r)) V r:=λe q=>by
  have ol:=rK N (bP r);have ol2:=rF r;obtain⟨h',e1,c1,w1⟩:=Lz (c+2) (k:=r0) (row:=bJ N r) (n:=b) T.R T.B (ix N (bP r)) (AZ K n V _) (by lia) (W.mono (by lia))
  rw[wB K,<-e]at e1;refine⟨_,h',e1,c1.mono (by simp[yF]),w1,?_,λ_=>rfl⟩
  rw[q];exact lJ.Sb T.B W.l1 c1
 have writes:∀s,IM r=some s->V7 r=false->lE c h N n r0 b (raw (c6 N V r)) V r:=λs ht hd=>by
  obtain⟨v,h',e,c1,w1,b1⟩:=Ie c K (k:=r0) (V:=V) T.R T.B W hz ht (ok.t s ht) (λo ho=>(ok.o o ho).1) (λo ho=>(ok.o o ho).2) (λa ha=>by
   rcases cR.mp ha with ha | ha
   ·exact AZ K n V _ a ha
   ·exact Nc K n V s a ha) (by rw[fF,wB K,Ia K]) ⟨λx hx=>rfl,λx hx=>rfl⟩
  refine⟨v,h',e,c1.mono (A3 n s),w1,?_,λz=>by rw[hd]at z;cases z⟩
  rw[Ik N V ht,<-mL];exact b1
 cases r with
 | put s o=>exact writes s rfl rfl
 | fill s o=>exact writes s rfl rfl
 | set s g o p=>exact writes s rfl rfl
 | j9 o=>exact reads (by simp[bZ,ix,bP]) rfl
 | ifs o p k=>exact reads (by simp[bZ,ix,bP]) rfl
 | go k=>exact reads (by simp[bZ,ix,bP]) rfl
 | cV=>exact absurd rfl ok.g
 | eR s t =>
  obtain⟨v,h',e,c1,w1,b1⟩:=QZ c K (k:=r0) (V:=V) (s:=s) (t:=t) T.R T.B W (ok.c s t rfl);exact⟨v,h',e,c1.mono (A3 n s),w1,b1,λz=>by cases z⟩
 | gU x =>
  obtain⟨v,h',e,c1,w1,b1⟩:=Ic c K (k:=r0) (x:=x) T.R T.B W (QW n V x);exact⟨v,h',e,c1.mono (by cases x<;>simp[gQ,yF]),w1,b1,λz=>by cases z⟩
end bH
set_option maxHeartbeats 4000000
namespace bH
open PySem L2 L2.U
variable {h:List aj} {N:Nm} {F:List Rw} {fs:List PV} {cnt:Int} {bF:List Int} {n r0:Nat} {A A':Ra} {V:Vs} {r:Rw}
theorem cF.V8(hR:yN h N F fs cnt bF)(x:List Int):yN (h.set 5 ⟨.lst,x.map .int⟩) N F fs cnt x :=
 ⟨by rw[bW (by decide)];exact hR.r,by rw[bW (by decide)];exact hR.nu,by rw[bW (by decide)];exact hR.fl,cz hR.sd⟩
theorem wD{h:List aj}{i:Nat}{pr li:PV}{w nu fl sd:Nat}{x:Int}(e:h[i]?=some (IJ pr w nu li fl sd x)):vK "count" (.ref i) h=some (("Run":Str),PV.int x):=by
 unfold vK;rw[ak e rfl];rfl
theorem Ec(c:Nat)(K:bh N){b:Nat}(T:A0 h N F fs cnt bF n r0 A r)(hn:6<=n)(hz:Vz N V)(hw:Wd h b)(ho:∀o∈bP r,AV V o)(hg:r≠.cV)(Z9:lE c h N n r0 b A' V r)(hsd:bF.length<=10000) :
  ∃h',run aM (c+11) "do_row" [.ref 2] h=some (.ok .aL,h')/\yN h' N F (fs++[.ref (n+12)]) (cnt+1) (bF++ui V r)/\iN h' N n (lD V r0 r) A'/\Wd h' b:=by
 have hs:=hz.h K;obtain⟨v,h1,e1,c1,w1,b1,v1⟩:=Z9;have m6:∀{B:List Nat},(∀m∈B,m=1\/6<m)->2∉B/\3∉B/\4∉B/\5∉B:=λhB=>⟨λz=>by have:=hB _ z;lia,λz=>by have:=hB _ z;lia,λz=>by have:=hB _ z;lia,λz=>by have:=hB _ z;lia⟩
 have R1:yN h1 N F (fs++[.ref (n+12)]) cnt bF:=T.R.ch c1 (m6 λm hm=>by simp only[yF,aC,bB,bD]at hm;omega)
 have T1:A0 h1 N F fs cnt bF n r0 A' r:=⟨R1,b1,T.r⟩;have e0:=CG T.R.fl;have e2:=yD (c+9) T;have e3:=uh (c+9) T;have e4:=λh=>Co (h:=h) N r
 have hd:=ak T.R.r rfl;have hE:=fj T.R.r;have nr:∀l,ao (.ref 2::l)=false:=jL 2
 have nr5:∀l,ao (.ref (n+12)::l)=false:=jL (n+12)
 have ad:∀h,AF h (.int cnt) (.int 1)=some (.int (cnt+1)):=λh=>rfl
 by_cases Q6:∃o,r=.j9 o
 ·obtain⟨o,rfl⟩:=Q6;have hv1:=v1 rfl;subst hv1;have q1:=Nf (c+7) (N:=N) (r:=.j9 o) hs ho;have nq:ao [bJ N (.j9 o),.lst (iw V (bP (.j9 o)))]=true:=by simp only[ao,uc,wa (A2 _ _),pQ]
  have q2:=CD (Ij V (.j9 o));have q3:=λρ=>Q5 (ρ:=ρ) (R:=[.int (opV V o)]) R1.sd (by rw[aU];show _+1<=_;lia)
  have hd1:=ak R1.r rfl;have hd4:=ak R1.sd rfl;have sdE:bF.map PV.int++[.int (opV V o)]=(bF++ui V (.j9 o)).map .int:=by rw[fF];rfl
  rw[sdE]at q3;have R2:=cF.V8 R1 (bF++ui V (.j9 o));obtain⟨h2,hh2⟩:∃h2,h2=h1.set 5 ⟨.lst,(bF++ui V (.j9 o)).map .int⟩:=⟨_,rfl⟩
  rw[<-hh2]at R2;have c2:Ch h1 h2 [5]:=by rw[hh2];exact Ch.set _
  have b2:=iN.ch b1 c2 (by simp <;> lia)
  have T2:A0 h2 N F fs cnt (bF++ui V (.j9 o)) n r0 A' (.j9 o):=⟨R2,b2,T.r⟩;have q4:=yE (c+6) (V:=V) (found:=.lst (iw V (bP (.j9 o)))) T2 hs ho (λ⟨_,_,_,z⟩=>by cases z) (λz=>by cases z)
  have q5:=λρ=>CF (ρ:=ρ) (x:=(lD V r0 (.j9 o):Int)) b2.f
  have b3:=iN.row b2 (lD V r0 (.j9 o));obtain⟨h3,PF⟩:∃h3,h3=h2.set (n+12) (o8 0 n (lD V r0 (.j9 o):Int)):=⟨_,rfl⟩
  have c3:Ch h2 h3 [n+12]:=by rw[PF];exact Ch.set _
  rw[<-PF]at q5 b3;have R3:yN h3 N F (fs++[.ref (n+12)]) cnt (bF++ui V (.j9 o)):=R2.ch c3 (by simp <;> lia)
  have q6:=λρ=>wC (ρ:=ρ) (y:=cnt+1) R3.r
  have q7:=jN R3.r;have q8:=wD R3.r;have hd3:=ak R3.r rfl;have R4:=cF.iP R3 (cnt+1);have c4:=Ch.set (h:=h3) (n:=2) (IJ (.au [fdP N F]) 0 3 (.lst [Dx N F]) 4 5 (cnt+1));have oN:=fj R1.r;have HU:=fj R2.r;refine⟨_,?_,R4,iN.ch b3 c4 (by simp <;> lia),((w1.ch c2 (by simp)).ch c3 (by simp <;> lia)).ch c4 (by simp)⟩
  ·rw[lr];rw[<-hh2]at q3;simp only[↓bI,e0,e1,e2,e3,e4,hd,hE,nr,nr5,ad,q1,nq,q2,q3,q4,q5,q6,q7,q8,hd1,hd4,hd3,oN,HU,aT,aS,cE,cD]
 ·have w1':∀h,lg h (.str (we r)) (.str "call")=some (.bl false):=λh=>by cases r<;>rfl
  have w2:∀h,lg h (.str (we r)) (.str "give")=some (.bl false):=λh=>by cases r<;>first | rfl | exact absurd rfl hg
  have w3:∀h,lg h (.str (we r)) (.str "say")=some (.bl false):=λh=>by cases r<;>first | rfl | exact absurd ⟨_,rfl⟩ Q6
  have sd0:ui V r=[]:=by cases r<;>first | rfl | exact absurd ⟨_,rfl⟩ Q6
  rw[sd0,cY];have q4:=yE (c+6) (V:=V) (found:=v) T1 hs ho (by
   rintro⟨o,p,k,z⟩
   subst z;exact v1 rfl) hg
  have q5:=λρ=>CF (ρ:=ρ) (x:=(lD V r0 r:Int)) b1.f
  have b3:=iN.row b1 (lD V r0 r);obtain⟨h3,PF⟩:∃h3,h3=h1.set (n+12) (o8 0 n (lD V r0 r:Int)):=⟨_,rfl⟩
  have c3:Ch h1 h3 [n+12]:=by rw[PF];exact Ch.set _
  rw[<-PF]at q5 b3;have R3:yN h3 N F (fs++[.ref (n+12)]) cnt bF:=R1.ch c3 (by simp <;> lia)
  have q6:=λρ=>wC (ρ:=ρ) (y:=cnt+1) R3.r
  have q7:=jN R3.r;have q8:=wD R3.r;have R4:=cF.iP R3 (cnt+1);have c4:=Ch.set (h:=h3) (n:=2) (IJ (.au [fdP N F]) 0 3 (.lst [Dx N F]) 4 5 (cnt+1));have oN:=fj R1.r;refine⟨_,?_,R4,iN.ch b3 c4 (by simp <;> lia),(w1.ch c3 (by simp <;> lia)).ch c4 (by simp)⟩
  ·rw[lr];simp only[↓bI,e0,e1,e2,e3,e4,hd,hE,nr,nr5,ad,w1',w2,w3,q4,q5,q6,q7,q8,oN,aT,aS,cE,cD]
end bH
set_option maxHeartbeats 4000000
namespace bH
open PySem L2 L2.U
noncomputable abbrev IP(m:Int)(p v:PV):aj:=⟨.ins "Box" ["number","pile","value"],[.int m,p,v]⟩
theorem Ed{h:List aj}{i:Nat}{m:Int}{p v w:PV}{ρ:List (Option PV)}(e:h[i]?=some (IP m p v)):ee eL eM "pile" (.ref i) w ⟨ρ,h⟩=some ⟨ρ,h.set i (IP m w v)⟩:=by
 rw[eu e (by kernel_rfl)]
 rfl
theorem Ng(c:CT){fi d gi:Nat}{j r t:Int}{Q:List PV}{x2:Option PV}:∀(X:List Nat) (g:List aj) (n:Nat) (x4:Option PV),Wd g (n+X.length)->g[fi]?=some (o8 j d r)->g[gi]?=some (IH Q t)->(∀x∈X,∃m p v,g[x]?=some (IP m p v)) ->
  ∃g' y4,fS (dh 4) (dP c) (X.map .ref) ⟨[some (.ref 0),some (.ref fi),x2,some (.ref gi),x4],g⟩=some (.ok .nx,⟨[some (.ref 0),some (.ref fi),x2,some (.ref gi),y4],g'⟩)/\Ch g g' (1::X)/\Wd g' n/\(∀(i:Nat) (m:Int) (p v:PV),g[i]?=some (IP m p v)->∃p',g'[i]?=some (IP m p' v))
 | [],g,n,x4,W,_,_,_=>⟨g,x4,rfl,Ch.refl _ _,W,λi m p v e=>⟨p,e⟩⟩
 | x::X,g,n,x4,W,hf,hg,hx=>by
  rw[cq]at W;obtain⟨m,p,v,bx⟩:=hx x (by simp)
  obtain⟨nb,nt,_,h0,_,_⟩:=id W;obtain⟨es,h1,hl,W1⟩:=Wd.add (v:=.au [.int j,.int r,.str "gone",.int m,.int t,.int (-1)]) (W.mono (k':=(n+X.length)+1) (by lia))
  have ap:=λρ v=>eZ (ρ:=ρ) (v:=v) h1 hl
  obtain⟨g1,nW⟩:∃g1,g1=g.set 1 ⟨.lst,es++[.au [.int j,.int r,.str "gone",.int m,.int t,.int (-1)]]⟩:=⟨_,rfl⟩
  have ap:∀ρ,fu (dN fw) (.ref 1) [.au [.int j,.int r,.str "gone",.int m,.int t,.int (-1)]] ⟨ρ,g⟩=some (.ok .aL,⟨ρ,g1⟩):=λρ=>by rw[nW];exact ap ρ _
  rw[<-nW]at W1;have c1:Ch g g1 [1]:=by rw[nW];exact Ch.set _
  have Sd:∀{i:Nat} {cc:aj},g[i]?=some cc->(∀l,cc≠⟨.lst,l⟩)->i∉[1]:=λe n=>by
   rw[bz];exact dR e h1 (n _)
  have V9:=c1.get bx (Sd bx λl z=>by cases z)
  have gp:=λρ=>Ed (ρ:=ρ) (w:=.lst []) V9
  obtain⟨g2,wL⟩:∃g2,g2=g1.set x (IP m (.lst []) v):=⟨_,rfl⟩
  rw[<-wL]at gp;have c2:Ch g1 g2 [x]:=by rw[wL];exact Ch.set _
  have xf:fi≠x:=dR (c1.get hf (Sd hf λl z=>by cases z)) V9 (by intro z;cases z)
  have xg:gi≠x:=dR (c1.get hg (Sd hg λl z=>by cases z)) V9 (by intro z;cases z)
  have x0:0≠x:=dR h0 bx (by intro z;cases z)
  have x1:1≠x:=dR h1 bx (by intro z;cases z)
  have k2:∀i m' p' v',g[i]?=some (IP m' p' v')->∃q,g2[i]?=some (IP m' q v'):=λi m' p' v' e=>by
   have e1:=c1.get e (Sd e λl z=>by cases z)
   by_cases hi:x=i
   ·subst hi;rw[V9]at e1;cases e1;exact⟨_,by rw[wL];exact cz V9⟩
   ·exact⟨p',by rw[wL,bW hi];exact e1⟩
  obtain⟨g',y4,e3,c3,w3,k3⟩:=Ng c (j:=j) (r:=r) (d:=d) (t:=t) (Q:=Q) (x2:=x2) X g2 n (some (.ref x)) (W1.ch c2 (by simp;exact⟨x0,x1⟩)) (c2.get (c1.get hf (Sd hf λl z=>by cases z)) (by simp;exact xf)) (c2.get (c1.get hg (Sd hg λl z=>by cases z)) (by simp;exact xg)) (λy hy=>by
   obtain⟨m',p',v',e⟩:=hx y (by simp[hy])
   obtain⟨q,e'⟩:=k2 _ _ _ _ e;exact⟨m',q,v',e'⟩)
  have d0:=ak h0 rfl;have d1:=ak h1 rfl;have df:=ak hf rfl;have dg:=ak hg rfl;have db:=ak bx rfl;have b1:dP c ⟨[some (.ref 0),some (.ref fi),x2,some (.ref gi),some (.ref x)],g⟩=some (.ok .nx,⟨[some (.ref 0),some (.ref fi),x2,some (.ref gi),some (.ref x)],g2⟩):=by
   refine bA ?_
   delta dP gq
   simp only[↓gk,d0,d1,df,dg,db,ap,gp]
  refine⟨g',y4,?_,?_,w3,λi m' p' v' e=>?_⟩
  ·rw[aQ];exact fC (s1:=⟨[some (.ref 0),some (.ref fi),x2,some (.ref gi),some (.ref x)],g⟩) rfl b1 e3
  ·refine((c1.mono (by simp)).tr c2 (by simp)).tr c3 (λk hk _=>?_)
   simp only[aC]at hk ⊢;rcases hk with rfl | hk
   ·exact .inl rfl
   ·exact .inr (.inr hk)
  ·obtain⟨q,e'⟩:=k2 _ _ _ _ e;exact k3 _ _ _ _ e'
noncomputable def LI:List (Nat×List Nat)->List Nat
 | []=>[]
 | e::G=>e.2++LI G
theorem Il(c:CT){fi d:Nat}{j r:Int}{x2:Option PV}:∀(Gs:List (Nat×List Nat)) (g:List aj) (n:Nat) (x3 x4:Option PV),Wd g (n+(LI Gs).length)->g[fi]?=some (o8 j d r)->(∀e∈Gs,(∃t,g[e.1]?=some (IH (e.2.map .ref) t))/\∀x∈e.2,∃m p v,g[x]?=some (IP m p v)) ->
  ∃g' y3 y4,fS (dh 3) (dQ c) (Gs.map λe=>.ref e.1) ⟨[some (.ref 0),some (.ref fi),x2,x3,x4],g⟩=some (.ok .nx,⟨[some (.ref 0),some (.ref fi),x2,y3,y4],g'⟩)/\Ch g g' (1::LI Gs)/\Wd g' n
 | [],g,n,x3,x4,W,_,_=>⟨g,x3,x4,rfl,Ch.refl _ _,W⟩
 | e::Gs,g,n,x3,x4,W,hf,hG=>by
  obtain⟨⟨t,ht⟩,hx⟩:=hG e (by simp)
  have hb:LI (e::Gs)=e.2++LI Gs:=rfl;rw[hb,bO]at W;obtain⟨g1,y4,e1,c1,w1,k1⟩:=Ng c (x2:=x2) e.2 g (n+(LI Gs).length) x4 (W.mono (by lia)) hf ht hx
  obtain⟨es,h1⟩:=W.l1;have no:∀{i:Nat} {cc:aj},g[i]?=some cc->(∀l,cc≠⟨.lst,l⟩)->(∀m p v,cc≠IP m p v)->i∉1::e.2:=λ{i cc} ei n1 n2 z=>by
   rcases aC.mp z with rfl | z
   ·rw[h1]at ei;exact n1 _ (aX ei).symm
   ·obtain⟨m,p,v,ex⟩:=hx _ z;rw[ei]at ex;exact n2 m p v (aX ex)
  obtain⟨g',y3,y4',e2,c2,w2⟩:=Il c (x2:=x2) Gs g1 n (some (.ref e.1)) y4 w1 (c1.get hf (no hf (λl z=>by cases z) λm p v z=>by cases z)) (λe' he'=>by
   obtain⟨⟨t',ht'⟩,Aj⟩:=hG e' (by simp[he'])
   refine⟨⟨t',c1.get ht' (no ht' (λl z=>by cases z) λm p v z=>by cases z)⟩,λx hx=>?_⟩
   obtain⟨m,p,v,ex⟩:=Aj x hx;obtain⟨p',ep⟩:=k1 _ _ _ _ ex;exact⟨m,p',v,ep⟩)
  have dg:=ak ht rfl;refine⟨g',y3,y4',?_,?_,w2⟩
  ·rw[aQ]
   revert e1
   delta dP gq
   intro e1;refine fC (s1:=⟨[some (.ref 0),some (.ref fi),x2,some (.ref e.1),x4],g⟩) rfl (?_:dQ c _=some (.ok .nx,⟨[some (.ref 0),some (.ref fi),x2,some (.ref e.1),y4],g1⟩)) e2;refine bA ?_
   delta dQ gq
   simp only[↓gk,dg,e1]
  ·rw[hb];refine(c1.mono ?_).tr c2 ?_
   ·intro m hm;simp only[aC,cR]at hm ⊢;rcases hm with hm | hm
    ·exact .inl hm
    ·exact .inr (.inl hm)
   ·intro m hm _;simp only[aC,cR]at hm ⊢;rcases hm with hm | hm
    ·exact .inl hm
    ·exact .inr (.inr hm)
end bH
set_option maxHeartbeats 4000000
namespace bH
open PySem L2 L2.U
variable {h:List aj} {N:Nm} {F:List Rw} {fs:List PV} {cnt:Int} {bF:List Int} {n r0:Nat} {A:Ra} {r:Rw}
noncomputable def Ee:List N5:=[.a,.b,.c,.d,.e]
theorem A5(c:Nat)(K:bh N)(T:A0 h N F fs cnt bF n r0 A r):run aM (c+2) "owned_by" [.ref 2,.ref (n+12)] h=some (.ok (.lst (Ee.map λx=>.ref (QR n x))),h):=by
 have e1:=ak T.R.r rfl;have e2:=ak T.B.f rfl;have e3:∀h,aZ h (.au [fdP N F]) (.int 0)=some (fdP N F):=λh=>rfl
 have e5:=g8 c N;have hE:=fj T.R.r;have l3:∀a b d e f:PV,[a,b,d,e,f].length<=4000000:=λ_ _ _ _ _=>by simp
 have ixh:=λx=>lz T.B.d (QS K n A x)
 have i1:∀h,aZ h (fdP N F) (.int 1)=some (.au [sJ N .a]):=λh=>rfl
 have i3:∀h,aZ h (fdP N F) (.int 3)=some (.au [sJ N .b,sJ N .c,sJ N .d,sJ N .e]):=λh=>rfl
 rw[vX];simp only[↓bI,e1,e2,e3,e5,i1,i3,hE,l3,ixh,yu,ao,noRef,cE,cD,pQ];rfl
def Se(n:Nat)(A:Ra):List (Nat×List Nat):=Ee.map λx=>(QR n x,(gQ n A x).map (·.1))
theorem Q7(n:Nat)(A:Ra):(LI (Se n A)).length=6/\∀m∈LI (Se n A),m∈yF n:=by
 simp[LI,Se,Ee,gQ,yF]
theorem LJ(c:Nat)(K:bh N){b:Nat}(T:A0 h N F fs cnt bF n r0 A .cV)(W:Wd h (b+6)):∃h',run aM (c+7) "given_back" [.ref 2,.ref (n+12),bJ N .cV] h=some (.ok .aL,h')/\Ch h h' (yF n)/\Wd h' b:=by
 have go:∀(g:List aj),Ch h g [1]->Wd g (b+6)->∃g',run aM (c+6) "Boxes.let_go" [.ref 0,.ref (n+12),.lst (Ee.map λx=>.ref (QR n x))] g=some (.ok .aL,g')/\Ch g g' (yF n)/\Wd g' b:=λg cg wg=>by
  have Bg:=T.B.Sb W.l1 cg;have⟨bl,bm⟩:=Q7 n A;obtain⟨g',y3,y4,e1,c1,w1⟩:=Il (run aM (c+5)) (x2:=some (.lst (Ee.map λx=>.ref (QR n x)))) (Se n A) g b none none (by rw[bl];exact wg) Bg.f (λe he=>by
   obtain⟨x,_,rfl⟩:=bX.mp he;obtain⟨t,a1,a2⟩:=Bg.p _ (nK (QS K n A x));refine⟨⟨t,?_⟩,λi hi=>?_⟩
   ·have a1:g[QR n x]?=some (IH (ly (gQ n A x)) t):=a1;rw[show((gQ n A x).map (·.1)).map PV.ref=ly (gQ n A x) by simp[ly]]
    exact a1
   ·obtain⟨y,hy,rfl⟩:=bX.mp hi;obtain⟨m,hm⟩:=a2 y hy;exact⟨m,_,_,hm⟩)
  revert e1
  rw[show(Se n A).map (λe=>PV.ref e.1)=Ee.map λx=>.ref (QR n x) by simp[Se]]
  delta dQ gq
  intro e1;refine⟨g',?_,c1.mono (λm hm=>?_),w1⟩
  ·rw[nI];simp only[↓bI,e1]
  ·rcases aC.mp hm with rfl | hm
   ·simp[yF]
   ·exact bm m hm
 have e1:=uh (c+5) T;have Z2:=λL=>W.mt L "let_go" (by kernel_rfl)
 have hd:=ak T.R.r rfl;have hE:=fj T.R.r;have nr:∀l,ao (.ref 2::l)=false:=jL 2
 obtain⟨g',e3,c3,w3⟩:=go h (Ch.refl _ _) W;have e2:=A5 (c+4) K T;refine⟨g',?_,c3,w3⟩;rw[rh];simp only[↓bI,e1,e2,e3,Z2,hd,hE,nr,aT,aS]
theorem pop_at{h:List aj}{i:Nat}{fs:List PV}{p:PV}{ρ:List (Option PV)}(e:h[i]?=some ⟨.lst,fs++[p]⟩):fu qS (.ref i) [] ⟨ρ,h⟩=some (.ok p,⟨ρ,h.set i ⟨.lst,fs⟩⟩):=by
 show((i9 h (.ref i)).bind λc=>(qS c.2 []).map λr=>_)=_
 rw[dC e rfl];show((((fs++[p])[(fs++[p]).length-1]?).map λq=>((⟨.lst,(fs++[p]).dropLast⟩:aj),q)).map λr=>_)=_
 rw[show(fs++[p])[(fs++[p]).length-1]?=some p by simp,List.dropLast_concat]
 rfl
theorem wF{h:List aj}{i:Nat}{fs:List PV}(e:h[i]?=some ⟨.lst,fs⟩):oo h (.ref i)=some (!fs.isEmpty):=by
 have d:=ak e rfl;simp only[oo,d]
theorem Q8{n:Nat}(hn:6<=n):2∉yF n/\3∉yF n/\4∉yF n/\5∉yF n:=by simp[yF];omega
theorem cF.fl'(hR:yN h N F fs cnt bF)(gs:List PV):yN (h.set 4 ⟨.lst,gs⟩) N F gs cnt bF :=
 ⟨by rw[bW (by decide)];exact hR.r,by rw[bW (by decide)];exact hR.nu,cz hR.fl,by rw[bW (by decide)];exact hR.sd⟩
theorem yH(c:Nat)(K:bh N){b:Nat}(T:A0 h N F [] cnt bF n r0 A .cV)(hn:6<=n)(W:Wd h (b+6)) :
  ∃h',run aM (c+11) "do_row" [.ref 2] h=some (.ok .aL,h')/\yN h' N F [] (cnt+1) bF/\Wd h' b:=by
 have e0:=CG T.R.fl;have e2:=yD (c+9) T;have e4:∀h,aZ h (bJ N .cV) (.int 0)=some (.str "give"):=λh=>rfl
 obtain⟨g,e1,c1,w1⟩:=LJ (c+2) K T W;have Rg:=T.R.ch c1 (Q8 hn);have hd:=ak T.R.r rfl;have hdg:=ak Rg.r rfl;have hd3:=ak Rg.fl rfl;have hE:=fj T.R.r;have nr:∀l,ao (.ref 2::l)=false:=jL 2
 have ad:∀h,AF h (.int cnt) (.int 1)=some (.int (cnt+1)):=λh=>rfl
 have p1:=λρ=>pop_at (ρ:=ρ) Rg.fl
 have R1:=cF.fl' Rg [];obtain⟨h1,hh1⟩:∃h1,h1=g.set 4 ⟨.lst,[]⟩:=⟨_,rfl⟩
 rw[<-hh1]at p1 R1;have hd1:=ak R1.r rfl;have hd2:=ak R1.fl rfl;have q6:=λρ=>wC (ρ:=ρ) (y:=cnt+1) R1.r
 have q7:=jN R1.r;have q8:=wD R1.r;have g1:run aM (c+10) "do_give" [.ref 2,.ref (n+12),bJ N .cV] h=some (.ok .aL,h1):=by
  rw[ym];have tr:oo h1 (.ref 4)=some false:=wF R1.fl;simp only[↓bI,e1,p1,hd,hdg,hd1,hd2,hd3,hE,nr,tr,aT,aS]
 have c4:=Ch.set (h:=h1) (n:=2) (IJ (.au [fdP N F]) 0 3 (.lst [Dx N F]) 4 5 (cnt+1));refine⟨_,?_,cF.iP R1 (cnt+1),((show Wd h1 b by rw[hh1];exact w1.ch (Ch.set _) (by simp))).ch c4 (by simp)⟩
 rw[lr];simp only[↓bI,e0,e2,e4,g1,hd,hE,nr,ad,q6,q7,q8,aT,aS]
end bH
set_option maxHeartbeats 4000000
namespace bH
open PySem L2 L2.U
variable {h:List aj} {N:Nm} {F:List Rw} {fs:List PV} {cnt:Int} {bF:List Int} {n r0:Nat} {r:Rw}
def oP:Nat->Vs->Ra
 | 0,V=>⟨.int V.a,.aL,.aL,.aL,.aL,.aL⟩
 | 1,V=>⟨.int V.a,.int V.b,.aL,.aL,.aL,.aL⟩
 | 2,V=>⟨.int V.a,.int V.b,stP V.c,.aL,.aL,.aL⟩
 | 3,V=>⟨.int V.a,.int V.b,stP V.c,.int V.d,.aL,.aL⟩
 | 4,V=>⟨.int V.a,.int V.b,stP V.c,.int V.d,.int V.n,.aL⟩
 | _,V=>raw V
inductive A6:Nat->Rw->Prop where
 | b (x:Int) (h:Bd x):A6 0 (.put .b (.num x))
 | c (x:Int) (h:Bd x):A6 1 (.fill .c (.num x))
 | d (x:Int) (h:Bd x):A6 2 (.put .d (.num x))
 | n:A6 3 (.put .n (.sp .a))
 | s (x:Int) (h:Bd x):A6 4 (.fill .s (.num x))
theorem A7(c:Nat)(K:bh N){b i:Nat}{V:Vs}(hi:A6 i r)(T:A0 h N F fs cnt bF n r0 (oP i V) r)(W:Wd h (b+12))(hz:Vz N V)(ha:Bd V.a):lE c h N n r0 b (oP (i+1) (c6 N V r)) V r:=by
 have go:∀s,IM r=some s->(∀a∈ix N (bP r)++rX N s,H9 (Hn N n (oP i V)) a)->(ix N (bP r)++rX N s).map (λa=>cP (aD (Hn N n (oP i V)) a))=iw V (bP r)++Et V s->(∀x,s≠.i x)->(∀x,s≠.j x)->(∀o∈bP r,AV V o/\Bd (opV V o))->fg (oP i V) (R7 N V (AY V r) s) s=oP (i+1) (c6 N V r)->LF V r s->V7 r=false->lE c h N n r0 b (oP (i+1) (c6 N V r)) V r:=λs ht h1 h2 h3 h3' h4 h5 h6 h7=>by
  obtain⟨v,h',e,c1,w1,b1⟩:=Ie c K (k:=r0) (V:=V) T.R T.B W hz ht h6 (λo ho=>(h4 o ho).1) (λo ho=>(h4 o ho).2) h1 h2 ⟨λx hx=>absurd hx (h3 x),λx hx=>absurd hx (h3' x)⟩
  rw[h5]at b1;exact⟨v,h',e,c1.mono (A3 n s),w1,b1,λz=>by rw[h7]at z;cases z⟩
 have num:∀{x:Int},Bd x->∀o∈[Op.num x],AV V o/\Bd (opV V o):=λhb o ho=>by rw[bz.mp ho];exact⟨trivial,hb⟩
 cases hi with
 | b x hb=>exact go .b rfl (λa ha=>by cases ha) rfl (λ_ z=>by cases z) (λ_ z=>by cases z) (num hb) rfl (.inl ⟨⟨_,rfl⟩,trivial⟩) rfl
 | c x hb=>exact go .c rfl (λa ha=>by cases ha) rfl (λ_ z=>by cases z) (λ_ z=>by cases z) (num hb) rfl (.inr (.inl ⟨⟨_,rfl⟩,.inl rfl⟩)) rfl
 | d x hb=>exact go .d rfl (λa ha=>by cases ha) rfl (λ_ z=>by cases z) (λ_ z=>by cases z) (num hb) rfl (.inl ⟨⟨_,rfl⟩,trivial⟩) rfl
 | s x hb=>exact go .s rfl (λa ha=>by cases ha) rfl (λ_ z=>by cases z) (λ_ z=>by cases z) (num hb) rfl (.inr (.inl ⟨⟨_,rfl⟩,.inr rfl⟩)) rfl
 | n =>
  have pl:aD (Hn N n (oP 3 V)) (ud N "read" .a)=[(Eu n .a,.int V.a)]:=rH K n (oP 3 V) .a "read" "";refine go .n rfl (λa ha=>?_) ?_ (λ_ z=>by cases z) (λ_ z=>by cases z) (λo ho=>?_) rfl (.inl ⟨⟨_,rfl⟩,trivial⟩) rfl
  ·have ha:a∈[ud N "read" .a]:=ha;rw[bz.mp ha];refine⟨iO K n _ .a "read" "",rfl,(show 1<=2 by decide),λx hx=>?_⟩
   rw[pl,bz]at hx;rw[hx];rfl
  ·show [cP (aD (Hn N n (oP 3 V)) (ud N "read" .a))]=_;rw[pl];rfl
  ·have ho:o∈[Op.sp .a]:=ho;rw[bz.mp ho];exact⟨trivial,ha⟩
end bH
set_option maxHeartbeats 4000000
namespace bH
open PySem L2 L2.U
structure oQ (N:Nm) (V:Vs):Prop where
 z:Vz N V
 a:Bd V.a
 b:Bd V.b
 d:Bd V.d
 n:Bd V.n
 c:∀x∈V.c,Bd x
 s:∀x∈V.s,Bd x
theorem CH{L:List Int}{i:Nat}(h:∀x∈L,Bd x):Bd (L.getD i 0):=by
 rw[kz];cases e:L[i]? with
 | none=>exact⟨pV _,by decide +kernel⟩
 | some x=>exact h x (pj e)
theorem Nh{N:Nm}{V:Vs}(K:oQ N V)(s:Sp):Bd (R6 V s):=by
 cases s with
 | a=>exact K.a
 | b=>exact K.b
 | d=>exact K.d
 | n=>exact K.n
 | i x=>exact CH K.c
 | j x=>exact CH K.s
 | c=>exact⟨pV _,(by decide +kernel:(0:Int)<pd)⟩
 | s=>exact⟨pV _,(by decide +kernel:(0:Int)<pd)⟩
theorem Wa(g:Sg)(x y:Int):Bd (QP g x y):=by
 have m:∀z:Int,Bd (z%pd):=λz=>⟨ib _ (by decide +kernel),kE _ (by decide +kernel)⟩
 cases g<;>exact m _
theorem Im{L:List Int}{i:Nat}{x:Int}(h:∀y∈L,Bd y)(hx:Bd x):∀y∈L.set i x,Bd y:=λy hy=>by
 rcases List.mem_or_eq_of_mem_set hy with z | z
 ·exact h y z
 ·rw[z];exact hx
theorem iQ{N:Nm}{V:Vs}{x:Int}(K:oQ N V)(hx:Bd x)(s:Sp):oQ N (wA N V x s):=by
 cases s with
 | a=>exact⟨⟨K.z.c,K.z.s⟩,hx,K.b,K.d,K.n,K.c,K.s⟩
 | b=>exact⟨⟨K.z.c,K.z.s⟩,K.a,hx,K.d,K.n,K.c,K.s⟩
 | d=>exact⟨⟨K.z.c,K.z.s⟩,K.a,K.b,hx,K.n,K.c,K.s⟩
 | n=>exact⟨⟨K.z.c,K.z.s⟩,K.a,K.b,K.d,hx,K.c,K.s⟩
 | c=>exact⟨⟨jh,K.z.s⟩,K.a,K.b,K.d,K.n,λy hy=>by rw[kB hy];exact hx,K.s⟩
 | s=>exact⟨⟨K.z.c,jh⟩,K.a,K.b,K.d,K.n,K.c,λy hy=>by rw[kB hy];exact hx⟩
 | i x=>exact⟨⟨(gB).trans K.z.c,K.z.s⟩,K.a,K.b,K.d,K.n,Im K.c hx,K.s⟩
 | j x=>exact⟨⟨K.z.c,(gB).trans K.z.s⟩,K.a,K.b,K.d,K.n,K.c,Im K.s hx⟩
def Wb(N:Nm):Rw->Prop
 | .eR s t=>(Eb s=true/\Eb t=true)\/(Ig s=true/\Ig t=true/\Na N s=Na N t)
 | _=>True
theorem Wc{N:Nm}{V:Vs}(K:oQ N V){t:Sp}(h:Ig t=true):(gr V t).length=Na N t/\∀x∈gr V t,Bd x:=by
 cases t with
 | c=>exact⟨K.z.c,K.c⟩
 | s=>exact⟨K.z.s,K.s⟩
 | _=>exact absurd h cf
theorem CI{N:Nm}{V:Vs}{r:Rw}(K:oQ N V)(ok:yG N V r)(cp:Wb N r):oQ N (c6 N V r):=by
 cases r with
 | put s o=>exact iQ K (ok.o o (by simp[bP])).2 s
 | fill s o=>exact iQ K (ok.o o (by simp[bP])).2 s
 | set s g o p=>exact iQ K (Wa g _ _) s
 | eR s t =>
  rcases cp with⟨h1,h2⟩ | ⟨h1,h2,h3⟩
  ·have hx:=Nh K t;cases s with
   | a=>exact iQ K hx .a
   | b=>exact iQ K hx .b
   | d=>exact iQ K hx .d
   | n=>exact iQ K hx .n
   | _=>exact absurd h1 cf
  ·obtain⟨l,hb⟩:=Wc K h2;cases s with
   | c=>exact⟨⟨l.trans h3.symm,K.z.s⟩,K.a,K.b,K.d,K.n,hb,K.s⟩
   | s=>exact⟨⟨K.z.c,l.trans h3.symm⟩,K.a,K.b,K.d,K.n,K.c,hb⟩
   | _=>exact absurd h1 cf
 | _=>exact K
structure oC (N:Nm) (F:List Rw):Prop where
 ini:∀i,i<5->∃r,F[i]?=some r/\A6 i r
 row:∀i r,F[i]?=some r->r≠.cV->(∀V,oQ N V->yG N V r)/\Wb N r/\∀V,lD V i r<F.length
structure St (h:List aj) (N:Nm) (F:List Rw) (n cnt:Nat) (sd:List Int) (i:Nat) (V:Vs) (b:Nat):Prop where
 R:yN h N F [.ref (n+12)] (cnt:Int) sd
 B:iN h N n i (raw V)\/(i<5/\iN h N n i (oP i V))
 W:Wd h b
 V:oQ N V
theorem Q9(c:Nat){h:List aj}{N:Nm}(K:bh N){F:List Rw}{n cnt:Nat}{sd:List Int}{i b:Nat}{V:Vs}{r:Rw}(P:oC N F)(S:St h N F n cnt sd i V (b+12))(hr:F[i]?=some r)(hg:r≠.cV)(hn:6<=n)(hs:sd.length<=10000) :
  ∃h',run aM (c+11) "do_row" [.ref 2] h=some (.ok .aL,h')/\St h' N F n (cnt+1) (sd++ui V r) (lD V i r) (c6 N V r) b:=by
 obtain⟨ok,cp,_⟩:=P.row i r hr hg;have okV:=ok V S.V;have V':=CI S.V okV cp;have jc:∀{A A':Ra},iN h N n i A->lE c h N n i b A' V r->(∀h',iN h' N n (lD V i r) A'->iN h' N n (lD V i r) (raw (c6 N V r))\/(lD V i r<5/\iN h' N n (lD V i r) (oP (lD V i r) (c6 N V r))))->∃h',run aM (c+11) "do_row" [.ref 2] h=some (.ok .aL,h')/\St h' N F n (cnt+1) (sd++ui V r) (lD V i r) (c6 N V r) b:=λ{A A'} B ac k=>by
  have T:A0 h N F [] (cnt:Int) sd n i A r:=⟨S.R,B,hr⟩;obtain⟨h',e,R',B',W'⟩:=Ec c K T hn S.V.z (S.W.mono (by lia)) (λo ho=>(okV.o o ho).1) hg ac hs
  exact⟨h',e,R',k h' B',W',V'⟩
 rcases S.B with B | ⟨h5,B⟩
 ·exact jc B (A4 c K (⟨S.R,B,hr⟩:A0 h N F [] (cnt:Int) sd n i _ r) S.W S.V.z okV) λh' z=>.inl z
 ·obtain⟨r',hr',hi⟩:=P.ini i h5;cases hr.symm.trans hr';refine jc B (A7 c K hi (⟨S.R,B,hr⟩:A0 h N F [] (cnt:Int) sd n i _ r) S.W S.V.z S.V.a) λh' z=>?_
  have nx:lD V i r=i+1:=by cases hi<;>rfl
  rw[nx]at z ⊢;by_cases h4:i+1<5
  ·exact .inr ⟨h4,z⟩
  ·have:i=4:=by lia
   subst this;exact .inl z
end bH
set_option maxHeartbeats 4000000
namespace bH
open PySem L2 L2.U
def runN(N:Nm)(F:List Rw):Nat->Nat->Nat->Vs->List Int->Str×List Int×Nat
 | 0,cnt,_,_,sd=>("more",sd,cnt)
 | k+1,cnt,i,V,sd=>match F[i]? with
  | none=>("more",sd,cnt)
  | some .cV=>("done",sd,cnt+1)
  | some r=>runN N F k (cnt+1) (lD V i r) (c6 N V r) (sd++ui V r)
theorem yI{N:Nm}{F:List Rw}{k cnt i:Nat}{V:Vs}{sd:List Int}{r:Rw}(hr:F[i]?=some r)(hg:r≠.cV):runN N F (k+1) cnt i V sd=runN N F k (cnt+1) (lD V i r) (c6 N V r) (sd++ui V r):=by
 show(match F[i]? with
  | none=>_
  | some .cV=>_
  | some r=>_)=_
 rw[hr];cases r
 case cV=>exact absurd rfl hg
 all_goals rfl
theorem Rb{h:List aj}{i:Nat}{fs:List PV}(e:h[i]?=some ⟨.lst,fs⟩):jw h [.ref i]=some (.int (fs.length:Int)):=by
 have d:=ak e rfl;have l:T5 h (.ref i)=some fs.length:=by simp only[T5,d]
 show(T5 h (.ref i)).map (λn=>PV.int n)=_
 rw[l];rfl
theorem Io(V:Vs)(r:Rw):(ui V r).length<=1:=by cases r<;>simp[ui]
theorem LK(c:Nat){N:Nm}(K:bh N){F:List Rw}{n:Nat}(P:oC N F)(hn:6<=n){most:Nat}(hm:most<=9000):∀(k cnt mM:Nat) (h:List aj) (i:Nat) (V:Vs) (sd:List Int),St h N F n cnt sd i V (12*k+6)->i<F.length->cnt+k=most->sd.length<=cnt->k<mM ->
  ∃h' fl w yJ iP q,runN N F k cnt i V sd=(w,yJ,iP)/\yN h' N F fl (iP:Int) yJ/\yJ.length<=most/\(q=dB.rt (.str w)\/(q=dB.nx/\w="done")) /\
   k9 (vk Q1) (fN (run aM (c+11))) mM ⟨[some (.ref 2),some (.int (most:Int))],h⟩=some (.ok q,⟨[some (.ref 2),some (.int (most:Int))],h'⟩):=by
 intro k;induction k with
 | zero =>
  intro cnt mM h i V sd S hi hc hs hf;obtain⟨mM,rfl⟩:∃m,mM=m+1:=⟨mM-1,by lia⟩
  have hd:=ak S.R.r rfl;have tr:oo h (.ref 4)=some true:=wF S.R.fl;have g1:∀h,WK h (.int (cnt:Int)) (.int (most:Int))=some (.bl true):=λh=>by
   show some (PV.bl (decide ((cnt:Int)>=(most:Int))))=_;rw[eS (by lia)]
  refine⟨h,_,"more",sd,cnt,_,rfl,S.R,by lia,.inl rfl,?_⟩
  have Xe:vk Q1 ⟨[some (.ref 2),some (.int (most:Int))],h⟩=some (.ok true,⟨[some (.ref 2),some (.int (most:Int))],h⟩):=by
   refine bA ?_;simp only[↓gk,hd,tr]
  refine eB Xe ?_;rw[if_pos rfl];refine eB (show fN (run aM (c+11)) _=some (.ok (.rt (.str "more")),⟨[some (.ref 2),some (.int (most:Int))],h⟩)from ?_) rfl
  refine bA ?_
  delta fN gq
  simp only[↓gk,hd,g1]
 | succ k ih =>
  intro cnt mM h i V sd S hi hc hs hf;obtain⟨mM,rfl⟩:∃m,mM=m+1:=⟨mM-1,by lia⟩
  have hd:=ak S.R.r rfl;have tr:oo h (.ref 4)=some true:=wF S.R.fl;have g1:∀h,WK h (.int (cnt:Int)) (.int (most:Int))=some (.bl false):=λh=>by
   show some (PV.bl (decide ((cnt:Int)>=(most:Int))))=_;rw[dz (by lia)]
  obtain⟨r,hr⟩:∃r,F[i]?=some r:=⟨_,eE hi⟩
  have e3:jw h [.ref 4]=some (.int 1):=Rb S.R.fl;have e5:∀h,lg h (.int 1) (.int 12)=some (.bl false):=λh=>rfl
  have hE:=fj S.R.r;have nr:∀l,ao (.ref 2::l)=false:=jL 2
  have Xe:vk Q1 ⟨[some (.ref 2),some (.int (most:Int))],h⟩=some (.ok true,⟨[some (.ref 2),some (.int (most:Int))],h⟩):=by
   refine bA ?_;simp only[↓gk,hd,tr]
  have bod:∀h',run aM (c+11) "do_row" [.ref 2] h=some (.ok .aL,h')->fN (run aM (c+11)) ⟨[some (.ref 2),some (.int (most:Int))],h⟩=some (.ok .nx,⟨[some (.ref 2),some (.int (most:Int))],h'⟩):=λh' x1=>by
   refine bA ?_
   delta fN gq
   simp only[↓gk,hd,g1,e3,e5,x1,hE,nr,aT,aS]
  by_cases hg:r=.cV
  ·subst hg;obtain⟨A,B⟩:∃A,iN h N n i A:=by
    rcases S.B with B | ⟨_,B⟩
    ·exact⟨_,B⟩
    ·exact⟨_,B⟩
   obtain⟨h',x1,R',W'⟩:=yH c K (b:=0) (⟨S.R,B,hr⟩:A0 h N F [] (cnt:Int) sd n i A .cV) hn (S.W.mono (by lia))
   have aae:runN N F (k+1) cnt i V sd=(("done":Str),sd,cnt+1):=by
    show(match F[i]? with
     | none=>_
     | some .cV=>_
     | some r=>_)=_
    rw[hr]
   have El:=ak R'.r rfl;have tr':oo h' (.ref 4)=some false:=wF R'.fl;have aaf:vk Q1 ⟨[some (.ref 2),some (.int (most:Int))],h'⟩=some (.ok false,⟨[some (.ref 2),some (.int (most:Int))],h'⟩):=by
    refine bA ?_;simp only[↓gk,El,tr']
   obtain⟨mM,rfl⟩:∃m,mM=m+1:=⟨mM-1,by lia⟩
   refine⟨h',_,"done",sd,cnt+1,.nx,aae,R',by lia,.inr ⟨rfl,rfl⟩,?_⟩
   refine eB Xe ?_;rw[if_pos rfl];refine eB (bod h' x1) ?_;exact eB aaf rfl
  ·obtain⟨h',x1,S'⟩:=Q9 c K (b:=12*k+6) P (by have:=S;rw[show 12*(k+1)+6=12*k+6+12 by lia]at this;exact this) hr hg hn (by lia)
   have hsl:=Io V r;obtain⟨h2,fl,w,yJ,iP,q,y1,y2,y3,y4,y5⟩:=ih (cnt+1) mM h' _ _ _ S' ((P.row i r hr hg).2.2 V) (by lia) (by rw[bO];lia) (by lia)
   refine⟨h2,fl,w,yJ,iP,q,by rw[yI hr hg];exact y1,y2,y3,y4,?_⟩
   refine eB Xe ?_;rw[if_pos rfl];exact eB (bod h' x1) y5
end bH
set_option maxHeartbeats 4000000
namespace bH
open PySem L2 L2.U
theorem Ip(c:Nat){N:Nm}(K:bh N){F:List Rw}{n:Nat}(P:oC N F)(hn:6<=n){most:Nat}(hm:most<=9000){h:List aj}{V:Vs}(S:St h N F n 0 [] 0 V (12*most+6))(h0:0<F.length) :
  ∃h' fl w yJ iP,runN N F most 0 0 V []=(w,yJ,iP)/\yN h' N F fl (iP:Int) yJ/\yJ.length<=most/\run aM (c+12) "run_on" [.ref 2,.int (most:Int)] h=some (.ok (.str w),h'):=by
 obtain⟨h',fl,w,yJ,iP,q,y1,y2,y3,y4,y5⟩:=LK c K P hn hm most 0 8000000 h 0 V [] S h0 (by lia) (by simp) (by lia)
 refine⟨h',fl,w,yJ,iP,y1,y2,y3,?_⟩;rw[AM]
 delta fN gq at y5
 rcases y4 with rfl | ⟨rfl,rfl⟩
 ·refine v7 (st':=⟨[some (.ref 2),some (.int (most:Int))],h'⟩) ?_;exact eB y5 rfl
 ·refine v7 (st':=⟨[some (.ref 2),some (.int (most:Int))],h'⟩) ?_;exact eB y5 rfl
theorem We{a:Str}{v:PV}:GJ [.au [.str a,v]]=some (Cv [(a,v)]):=rfl
theorem rL{f:Str}{ns:List Str}{ps:List PV}{v:PV}{ρ:List (Option PV)}{L:List aj}(hc:(eL.contains "Run"&&eM.contains f&&decide (ns.length<900))=true):ee eL eM f (.ref 2) v ⟨ρ,je 0 0::⟨.lst,[]⟩::⟨.ins "Run" ns,ps⟩::L⟩=some ⟨ρ,je 0 0::⟨.lst,[]⟩::⟨.ins "Run" (ja f v ns ps).1,(ja f v ns ps).2⟩::L⟩:=eu (h:=je 0 0::⟨.lst,[]⟩::⟨.ins "Run" ns,ps⟩::L) rfl hc
theorem Rc(c:Nat){N:Nm}(K:bh N)(F:List Rw)(hl:F.length<=100):DT (run aM (c+14)) "Run" [.ref 2,.au [fdP N F],.ref 0] [je 0 0,⟨.lst,[]⟩,⟨.ins "Run" [],[]⟩]=some (.ok .aL,[je 0 0,⟨.lst,[]⟩,IJ (.au [fdP N F]) 0 3 (.lst [Dx N F]) 4 5 0,⟨.eQ false [mH N.f],[.int 0]⟩,⟨.lst,[]⟩,⟨.lst,[]⟩]):=by
 obtain⟨p0,h0,a0,b0⟩:=HN c K F hl;have dd:=λv=>We (a:=N.f) (v:=v)
 have en:kq 0 [fdP N F]=[.au [.int 0,fdP N F]]:=rfl;have l3:∀a:PV,[a].length<=4000000:=λ_=>by simp
 have i0:∀h,aZ h (fdP N F) (.int 0)=some (.str N.f):=λh=>rfl
 have nr:∀(i:Int),ao [PV.au [fdP N F],PV.int i]=true:=λi=>by simp[ao,noRef,nX]
 have t1:∀ρ v L,ee eL eM "program" (.ref 2) v ⟨ρ,je 0 0::⟨.lst,[]⟩::⟨.ins "Run" [],[]⟩::L⟩=some ⟨ρ,je 0 0::⟨.lst,[]⟩::⟨.ins "Run" ["program"],[v]⟩::L⟩:=λρ v L=>rL (by kernel_rfl)
 have t2:∀ρ v L a,ee eL eM "world" (.ref 2) v ⟨ρ,je 0 0::⟨.lst,[]⟩::⟨.ins "Run" ["program"],[a]⟩::L⟩=some ⟨ρ,je 0 0::⟨.lst,[]⟩::⟨.ins "Run" ["program","world"],[a,v]⟩::L⟩:=λρ v L a=>rL (by kernel_rfl)
 have t3:∀ρ v L a b,ee eL eM "numbers" (.ref 2) v ⟨ρ,je 0 0::⟨.lst,[]⟩::⟨.ins "Run" ["program","world"],[a,b]⟩::L⟩=some ⟨ρ,je 0 0::⟨.lst,[]⟩::⟨.ins "Run" ["program","world","numbers"],[a,b,v]⟩::L⟩:=λρ v L a b=>rL (by kernel_rfl)
 have t4:∀ρ v L a b d,ee eL eM "listed" (.ref 2) v ⟨ρ,je 0 0::⟨.lst,[]⟩::⟨.ins "Run" ["program","world","numbers"],[a,b,d]⟩::L⟩=some ⟨ρ,je 0 0::⟨.lst,[]⟩::⟨.ins "Run" ["program","world","numbers","listed"],[a,b,d,v]⟩::L⟩:=λρ v L a b d=>rL (by kernel_rfl)
 have t5:∀ρ v L a b d e,ee eL eM "frames" (.ref 2) v ⟨ρ,je 0 0::⟨.lst,[]⟩::⟨.ins "Run" ["program","world","numbers","listed"],[a,b,d,e]⟩::L⟩=some ⟨ρ,je 0 0::⟨.lst,[]⟩::⟨.ins "Run" ["program","world","numbers","listed","frames"],[a,b,d,e,v]⟩::L⟩:=λρ v L a b d e=>rL (by kernel_rfl)
 have t6:∀ρ v L a b d e g,ee eL eM "said" (.ref 2) v ⟨ρ,je 0 0::⟨.lst,[]⟩::⟨.ins "Run" ["program","world","numbers","listed","frames"],[a,b,d,e,g]⟩::L⟩=some ⟨ρ,je 0 0::⟨.lst,[]⟩::⟨.ins "Run" ["program","world","numbers","listed","frames","said"],[a,b,d,e,g,v]⟩::L⟩:=λρ v L a b d e g=>rL (by kernel_rfl)
 have t7:∀ρ v L a b d e g i,ee eL eM "count" (.ref 2) v ⟨ρ,je 0 0::⟨.lst,[]⟩::⟨.ins "Run" ["program","world","numbers","listed","frames","said"],[a,b,d,e,g,i]⟩::L⟩=some ⟨ρ,je 0 0::⟨.lst,[]⟩::⟨.ins "Run" ["program","world","numbers","listed","frames","said","count"],[a,b,d,e,g,i,v]⟩::L⟩:=λρ v L a b d e g i=>rL (by kernel_rfl)
 have rg:xH [.int 1]=some [.int 0]:=by rfl
 generalize fdP N F=P at *
 have ln:∀h,jw h [.au [P]]=some (.int 1):=λh=>rfl
 rw[Qw];simp only[↓bI,t1,t2,t3,t4,t5,t6,t7,ln,rg,en,dd,l3,i0,nr,a0,b0,cE,cD];rfl
theorem Ni{f g:Gx dB}{st s1:bY}{r:Option (Rs dB×bY)}(h1:f st=some (.ok .nx,s1))(h2:g s1=r):qC f g st=r:=eB h1 h2
noncomputable def nN(N:Nm)(x:Int):Vs:=⟨x,0,List.replicate N.z 0,0,0,List.replicate N.y 0⟩
theorem Wf:Bd 0:=⟨pV _,by decide +kernel⟩
theorem Rf(N:Nm){x:Int}(hx:Bd x):oQ N (nN N x):=⟨⟨jh,jh⟩,hx,Wf,Wf,Wf,λy hy=>by rw[kB hy];exact Wf,λy hy=>by rw[kB hy];exact Wf⟩
theorem LL(c:Nat){N:Nm}(K:bh N){F:List Rw}(hl:F.length<=100){x:Int}(hx:Bd x){most:Nat}(hm:most<=9000) :
  ∃h',run aM (c+15) "run_from_first" [.au [fdP N F],.ref 0,.lst [.int x]] [je 0 0,⟨.lst,[]⟩]=some (.ok (.ref 2),h')/\St h' N F 7 0 [] 0 (nN N x) (12*most+6):=by
 obtain⟨g,hg⟩:∃g:List aj,g=[je 0 0,⟨.lst,[]⟩,IJ (.au [fdP N F]) 0 3 (.lst [Dx N F]) 4 5 0,⟨.eQ false [mH N.f],[.int 0]⟩,⟨.lst,[]⟩,⟨.lst,[]⟩]:=⟨_,rfl⟩
 have gl:g.length=6:=by rw[hg];rfl
 have R0:yN g N F [] 0 []:=by rw[hg];exact⟨rfl,rfl,rfl,rfl⟩
 have W0:Wd g (12*most+6+10):=by rw[hg];exact⟨0,0,[],rfl,rfl,by show 0+(12*most+6+10)<=3000000;lia⟩
 have e1:DT (run aM (c+14)) "Run" [.ref [je 0 0,⟨.lst,[]⟩].length,.au [fdP N F],.ref 0] ([je 0 0,⟨.lst,[]⟩]++[⟨.ins "Run" [],[]⟩])=some (.ok .aL,g):=by rw[hg];exact Rc c K F hl
 have e2:∀h,aZ h (.au [fdP N F]) (.int 0)=some (fdP N F):=λh=>rfl
 have e3:∀h,aZ h (fdP N F) (.int 1)=some (.au [sJ N .a]):=λh=>rfl
 have z1:P2 (.au [sJ N .a]) (.lst [.int x])=some [.au [sJ N .a,.int x]]:=rfl;have l1:∀a:PV,[a].length<=4000000:=λ_=>by simp
 have R1:yN (g++[Cv [(N.n .a,.lst [.int x])]]) N F [] 0 []:=R0.app _;obtain⟨h',b1,b2,b3,b4,b5,b6⟩:=Ln (c+6) K (n:=12*most+6) R1 (W0.ch (Ch.app g _ []) (by simp)) (g:=6) (va:=x) (es:=[(N.n .a,.lst [.int x])]) (by rw[kA (by lia),gl];rfl) (by show(if mH N.a=mH N.a then _ else _)=_;rw[if_pos rfl]) (by simp)
 have hl7:(g++[Cv [(N.n .a,.lst [.int x])]]).length=7:=by rw[bO,gl];rfl
 rw[hl7]at b2 b3 b6;have hE:(g++[Cv [(N.n .a,.lst [.int x])]]).isEmpty=false:=fj R1.r;have nr:∀l,ao (.ref 2::l)=false:=jL 2
 have bg:run aM (c+14) "begin" [.ref 2,.int 0,.ref 6] (g++[Cv [(N.n .a,.lst [.int x])]])=some (.ok .aL,h'):=b1;refine⟨h',?_,⟨b2,.inr ⟨by decide,b3⟩,b4,Rf N hx⟩⟩
 have dd:=λv=>We (a:=N.n .a) (v:=v)
 generalize fdP N F=P at e1 e2 e3 ⊢
 rw[lq];simp only[↓bI,e1,e2,e3,z1,l1,dd,gl,bg,hE,nr,aT,aS]
end bH
set_option maxHeartbeats 4000000
namespace bH
open PySem L2 L2.U
def LM(N:Nm)(F:List Rw)(most:Nat)(x:Int):PV:=.au [.str (runN N F most 0 0 (nN N x) []).1,.lst ((runN N F most 0 0 (nN N x) []).2.1.map .int),.int ((runN N F most 0 0 (nN N x) []).2.2:Int),.au []]
theorem Wg(c:Nat){N:Nm}(K:bh N){F:List Rw}(P:oC N F)(hl:F.length<=100)(h0:0<F.length){x:Int}(hx:Bd x){most:Nat}(hm:most<=9000) :
  ∃p h',run aM (c+16) "run" [.au [fdP N F],.lst [.int x],.int (most:Int)] []=some (.ok p,h')/\gM h' p=some (LM N F most x):=by
 obtain⟨h1,e1,S⟩:=LL c K hl hx (most:=most) hm;obtain⟨h2,fl,w,sd,cnt,y1,y2,y3,y4⟩:=Ip (c+3) K P (by decide) hm S h0
 unfold LM;rw[y1];have hd:=ak y2.r rfl;have oN:=fj S.R.r;have nr:∀l,ao (.ref 2::l)=false:=jL 2
 refine⟨.au [.str w,.ref 5,.int (cnt:Int),.au []],h2,?_,?_⟩
 ·have e1:run aM (c+15) "run_from_first" [.au [fdP N F],.ref ([]:List aj).length,.lst [.int x]] [(⟨.ins "Boxes" ["entries","boxes_made","tags_made"],[.ref (([]:List aj)++[(⟨.ins "Boxes" [],[]⟩:aj)]).length,.int 0,.int 0]⟩:aj),(⟨.lst,[]⟩:aj)]=some (.ok (.ref 2),h1):=e1
  generalize fdP N F=Q at e1 ⊢
  rw[Lb];refine v7 (st':=⟨[some (.au [Q]),some (.lst [.int x]),some (.int (most:Int)),some (.ref 2),some (.str w),none,none],h2⟩) ?_;refine Ni (s1:=⟨[some (.au [Q]),some (.lst [.int x]),some (.int (most:Int)),some (.ref 2),none,none,none],h1⟩) ?_ ?_
  ·refine bA ?_;simp only[↓gk,e1]
  ·refine Ni (s1:=⟨[some (.au [Q]),some (.lst [.int x]),some (.int (most:Int)),some (.ref 2),some (.str w),none,none],h2⟩) (M7 ?_) ?_
   ·refine bA ?_;simp only[↓gk,y4,oN,nr,aT,aS]
   ·refine bA ?_;simp only[↓gk,hd]
 ·have HU:=fj y2.r;unfold gM;rw[if_neg (by rw[HU];exact cf)]
  have d4:lI h2 3 (.ref 5)=some (.lst (sd.map .int)):=by
   show((h2[5]?).bind λc=>if live c=true then(dO (lI h2 2) c.ps).map (PV.nd c.k)else none)=_
   rw[y2.sd];show(dO (lI h2 2) (sd.map .int)).map (PV.nd Kd.lst)=_;rw[mI (fO (λ_=>rfl) sd)]
   rfl
  show((some (PV.str w)).bind λa=>((lI h2 3 (.ref 5)).bind λb=>((some (PV.int (cnt:Int))).bind λd=>(((some (PV.au [])).bind λe=>(some []).map λr=>e::r).map λr=>d::r)).map λr=>b::r).map λr=>a::r).map (PV.nd Kd.au)=_
  rw[d4];rfl
end bH
set_option maxHeartbeats 4000000
namespace bH
open PySem L2 L2.U
noncomputable def kK(N:Nm):Sp->bQ×List bQ
 | .a=>(.inr N.a,[])
 | .b=>(.inr N.b,[])
 | .c=>(.inr N.c,[])
 | .i _=>(.inr N.c,[])
 | .d=>(.inr N.d,[])
 | .n=>(.inr N.e,[.inl 0])
 | _=>(.inr N.e,[.inl 1])
def Iq:Sp->PV
 | .n=>.au [.int 0]
 | .s=>.au [.int 1]
 | .j _=>.au [.int 1]
 | _=>.au []
def pK(N:Nm)(s:Sp):PV:=.au [.str (N.n s.x),Iq s]
theorem lF(N:Nm)(s:Sp):fU true (pK N s)=some (kK N s):=by cases s<;>rfl
def Sf(V:Vs):Sp->PV
 | .a=>.int V.a
 | .b=>.int V.b
 | .d=>.int V.d
 | .n=>.int V.n
 | s=>stP (gr V s)
def yO(N:Nm)(V:Vs):aj:=⟨.eQ true [kK N .a,kK N .b,kK N .c,kK N .d,kK N .n,kK N .s],[.int V.a,.int V.b,stP V.c,.int V.d,.int V.n,stP V.s]⟩
theorem mN{h:List aj}{d:Nat}{N:Nm}(K:bh N){V:Vs}(e:h[d]?=some (yO N V))(s:Sp):aZ h (.ref d) (pK N s)=some (Sf V s):=by
 have d1:=ak (k:=.eQ true [kK N .a,kK N .b,kK N .c,kK N .d,kK N .n,kK N .s]) (ps:=[.int V.a,.int V.b,stP V.c,.int V.d,.int V.n,stP V.s]) e rfl;have nq:∀{x y:N5} {p q:List bQ},x≠y->¬((.inr (N.n x),p):bQ×List bQ)=(.inr (N.n y),q):=λhx z=>by
  injection z with z1 _
  injection z1 with z2
  exact hx (K.n z2)
 have ab:=λp q=>nq (p:=p) (q:=q) (show N5.a≠.b by decide)
 have ac:=λp q=>nq (p:=p) (q:=q) (show N5.a≠.c by decide)
 have ad:=λp q=>nq (p:=p) (q:=q) (show N5.a≠.d by decide)
 have ae:=λp q=>nq (p:=p) (q:=q) (show N5.a≠.e by decide)
 have bc:=λp q=>nq (p:=p) (q:=q) (show N5.b≠.c by decide)
 have bd:=λp q=>nq (p:=p) (q:=q) (show N5.b≠.d by decide)
 have be:=λp q=>nq (p:=p) (q:=q) (show N5.b≠.e by decide)
 have cd:=λp q=>nq (p:=p) (q:=q) (show N5.c≠.d by decide)
 have ce:=λp q=>nq (p:=p) (q:=q) (show N5.c≠.e by decide)
 have de:=λp q=>nq (p:=p) (q:=q) (show N5.d≠.e by decide)
 have Xf:¬((.inr N.e,[.inl 0]):bQ×List bQ)=(.inr N.e,[.inl 1]):=λz=>by
  injection z with _ z
  injection z with z _
  injection z with z
  cases z
 have go:gX (kK N s) [kK N .a,kK N .b,kK N .c,kK N .d,kK N .n,kK N .s] [.int V.a,.int V.b,stP V.c,.int V.d,.int V.n,stP V.s]=some (Sf V s):=by
  simp only[Nm.n]at ab ac ad ae bc bd be cd ce de;cases s<;>simp only[gX,kK,ab,ac,ad,ae,bc,bd,be,cd,ce,de,Xf,eI,cJ,Sf,gr]
 simp only[aZ,d1,lF];exact go
end bH
set_option maxHeartbeats 4000000
namespace bH
open PySem L2 L2.U
def Nj(N:Nm)(A:Ra):aj:=⟨.eQ true [kK N .a,kK N .b,kK N .c,kK N .d,kK N .n,kK N .s],[A.a,A.b,A.c,A.d,A.n,A.s]⟩
theorem rM(N:Nm)(V:Vs):yO N V=Nj N (raw V):=rfl
theorem Rh{h:List aj}{d:Nat}{N:Nm}(K:bh N){A:Ra}{v:PV}{ρ:List (Option PV)}(e:h[d]?=some (Nj N A))(s:Sp):nH (.ref d) (pK N s) v ⟨ρ,h⟩=some ⟨ρ,h.set d (Nj N (fg A v s))⟩:=by
 have nq:∀{x y:N5} {p q:List bQ},x≠y->¬((.inr (N.n x),p):bQ×List bQ)=(.inr (N.n y),q):=λhx z=>by
  injection z with z1 _
  injection z1 with z2
  exact hx (K.n z2)
 have ab:=λp q=>nq (p:=p) (q:=q) (show N5.a≠.b by decide)
 have ac:=λp q=>nq (p:=p) (q:=q) (show N5.a≠.c by decide)
 have ad:=λp q=>nq (p:=p) (q:=q) (show N5.a≠.d by decide)
 have ae:=λp q=>nq (p:=p) (q:=q) (show N5.a≠.e by decide)
 have bc:=λp q=>nq (p:=p) (q:=q) (show N5.b≠.c by decide)
 have bd:=λp q=>nq (p:=p) (q:=q) (show N5.b≠.d by decide)
 have be:=λp q=>nq (p:=p) (q:=q) (show N5.b≠.e by decide)
 have cd:=λp q=>nq (p:=p) (q:=q) (show N5.c≠.d by decide)
 have ce:=λp q=>nq (p:=p) (q:=q) (show N5.c≠.e by decide)
 have de:=λp q=>nq (p:=p) (q:=q) (show N5.d≠.e by decide)
 have Xf:¬((.inr N.e,[.inl 0]):bQ×List bQ)=(.inr N.e,[.inl 1]):=λz=>by
  injection z with _ z
  injection z with z _
  injection z with z
  cases z
 have hs:mj (kK N s) [kK N .a,kK N .b,kK N .c,kK N .d,kK N .n,kK N .s]=true:=by
  unfold mj;rw[List.any_eq_true];cases s
  case a=>exact⟨kK N .a,by simp,by simp⟩
  case b=>exact⟨kK N .b,by simp,by simp⟩
  case c=>exact⟨kK N .c,by simp,by simp⟩
  case i x=>exact⟨kK N .c,by simp,by simp[kK]⟩
  case d=>exact⟨kK N .d,by simp,by simp⟩
  case n=>exact⟨kK N .n,by simp,by simp⟩
  case s=>exact⟨kK N .s,by simp,by simp⟩
  case j x=>exact⟨kK N .s,by simp,by simp[kK]⟩
 have go:sh (kK N s) v [kK N .a,kK N .b,kK N .c,kK N .d,kK N .n,kK N .s] [A.a,A.b,A.c,A.d,A.n,A.s]=[(fg A v s).a,(fg A v s).b,(fg A v s).c,(fg A v s).d,(fg A v s).n,(fg A v s).s]:=by
  have n10:¬((.inr N.e,[.inl 1]):bQ×List bQ)=(.inr N.e,[.inl 0]):=λz=>Xf z.symm
  have ba:=λp q=>nq (p:=p) (q:=q) (show N5.b≠.a by decide)
  have ca:=λp q=>nq (p:=p) (q:=q) (show N5.c≠.a by decide)
  have da:=λp q=>nq (p:=p) (q:=q) (show N5.d≠.a by decide)
  have ea:=λp q=>nq (p:=p) (q:=q) (show N5.e≠.a by decide)
  have cb:=λp q=>nq (p:=p) (q:=q) (show N5.c≠.b by decide)
  have db:=λp q=>nq (p:=p) (q:=q) (show N5.d≠.b by decide)
  have eb:=λp q=>nq (p:=p) (q:=q) (show N5.e≠.b by decide)
  have dc:=λp q=>nq (p:=p) (q:=q) (show N5.d≠.c by decide)
  have ec:=λp q=>nq (p:=p) (q:=q) (show N5.e≠.c by decide)
  have ed:=λp q=>nq (p:=p) (q:=q) (show N5.e≠.d by decide)
  simp only[Nm.n]at ab ac ad ae bc bd be cd ce de ba ca da ea cb db eb dc ec ed;cases s<;>simp only[sh,qJ,kK,ab,ac,ad,ae,bc,bd,be,cd,ce,de,ba,ca,da,ea,cb,db,eb,dc,ec,ed,Xf,n10,eI,cJ,fg]
 show((i9 h (.ref d)).bind λc=>match c.2.k with
  | .lst=>(nC (pK N s)).bind λi=>(Dc c.2.ps.length i).map λj=>(⟨ρ,h.set c.1 ⟨.lst,c.2.ps.set j v⟩⟩:bY)
  | .eQ t mQ=>(fU t (pK N s)).bind λk=>if mQ.length<ic then some ⟨ρ,h.set c.1 (iH t k v mQ c.2.ps)⟩else none
  | _=>none)=_
 rw[dC e rfl];show((fU true (pK N s)).bind λk=>if [kK N .a,kK N .b,kK N .c,kK N .d,kK N .n,kK N .s].length<ic then some (⟨ρ,h.set d (iH true k v [kK N .a,kK N .b,kK N .c,kK N .d,kK N .n,kK N .s] [A.a,A.b,A.c,A.d,A.n,A.s])⟩:bY)else none)=_
 rw[lF];show(if [kK N .a,kK N .b,kK N .c,kK N .d,kK N .n,kK N .s].length<ic then some (⟨ρ,h.set d (iH true (kK N s) v [kK N .a,kK N .b,kK N .c,kK N .d,kK N .n,kK N .s] [A.a,A.b,A.c,A.d,A.n,A.s])⟩:bY)else none)=_
 rw[if_pos (by show 6<ic;decide)]
 unfold iH;rw[if_pos hs,go];rfl
end bH
set_option maxHeartbeats 4000000
namespace bH
open PySem L2 L2.U
theorem mO(c:Nat){N:Nm}(K:bh N){h:List aj}{d:Nat}{V:Vs}(e:h[d]?=some (yO N V))(x:Ix){m:Nat}(hm:1<=m):run aM (c+1) "_law_place" [.ref d,yt N x,.int (m:Int)] h=some (.ok (.int (iu V m x:Int)),h):=by
 have ka:aZ h (.ref d) (.au [.str N.a,.au []])=some (.int V.a):=mN K e .a;have kb:aZ h (.ref d) (.au [.str N.b,.au []])=some (.int V.b):=mN K e .b;have ma:∀h,cB h (.int V.a) (.int (m:Int))=_:=λh=>iM hm
 have mb:∀h,cB h (.int V.b) (.int (m:Int))=_:=λh=>iM hm
 rw[AR];cases x with
 | «at» i=>simp only[↓bI,yt];rfl
 | a=>simp only[↓bI,yt,ka,ma];rfl
 | b=>simp only[↓bI,yt,kb,mb];rfl
theorem wG(c:Nat){N:Nm}(K:bh N){h:List aj}{d:Nat}{V:Vs}(e:h[d]?=some (yO N V))(hs:Hs V){o:Op}(ho:AV V o):run aM (c+2) "_law_number" [.ref d,i6 N o] h=some (.ok (.int (opV V o)),h):=by
 have ka:aZ h (.ref d) (.au [.str N.a,.au []])=some (.int V.a):=mN K e .a;have kb:aZ h (.ref d) (.au [.str N.b,.au []])=some (.int V.b):=mN K e .b;have kc:aZ h (.ref d) (.au [.str N.c,.au []])=some (stP V.c):=mN K e .c;have kd:aZ h (.ref d) (.au [.str N.d,.au []])=some (.int V.d):=mN K e .d;have kn:aZ h (.ref d) (.au [.str N.e,.au [.int 0]])=some (.int V.n):=mN K e .n;have ks:aZ h (.ref d) (.au [.str N.e,.au [.int 1]])=some (stP V.s):=mN K e .s;have hE:h.isEmpty=false:=fj e;have nr:∀l,ao (.ref d::l)=false:=jL d
 have e9:=λh L=>mK (L:=L) (h:=h)
 have pc:=λx=>mO c K e x hs.c
 have ps:=λx=>mO c K e x hs.s
 have nn:∀x,d8 (yt N x)=false:=λx=>by cases x<;>rfl
 have lt:∀(L:List Int) x,1<=L.length->(∀i,x=Ix.at i->i<L.length)->iu V L.length x<L.length:=λL x h1 h2=>by
  cases x with
  | «at» i=>exact h2 i rfl
  | a=>exact mod_lt h1
  | b=>exact mod_lt h1
 rw[nU];cases o with
 | num i=>simp only[↓bI,i6];rfl
 | sp s =>
  cases s with
  | s=>exact absurd ho id
  | c=>exact absurd ho id
  | a=>simp only[↓bI,i6,gy,ka];rfl
  | b=>simp only[↓bI,i6,gy,kb];rfl
  | d=>simp only[↓bI,i6,gy,kd];rfl
  | n=>simp only[↓bI,i6,gy,kn];rfl
  | i x =>
   have e2:∀h,aZ h (stP V.c) (.int (iu V V.c.length x:Int))=_:=λh=>jO (lt V.c x hs.c λi hi=>by rw[hi]at ho;exact ho)
   have px:=pc x;simp only[↓bI,i6,gy,kc,nn,e9,px,e2,hE,nr,aT,aS];rfl
  | j x =>
   have e2:∀h,aZ h (stP V.s) (.int (iu V V.s.length x:Int))=_:=λh=>jO (lt V.s x hs.s λi hi=>by rw[hi]at ho;exact ho)
   have px:=ps x;simp only[↓bI,i6,gy,ks,nn,e9,px,e2,hE,nr,aT,aS];rfl
theorem Ef(c:Nat){g:Sg}{x y:Int}(hx:Bd x)(hy:Bd y):run aM (c+1) "_law_reckon" [.str (Lh g),.int x,.int y] []=some (.ok (.int (QP g x y)),[]):=by
 have e4:=λh=>HV (h:=h)
 have e5:=λh x=>rG (h:=h) (x:=x)
 have e6:=λh=>HX (h:=h) hx hy
 rw[yo];cases g<;>(simp only[↓bI,e4,e5,e6,Lh];rfl)
end bH
set_option maxHeartbeats 4000000
namespace bH
open PySem L2 L2.U
noncomputable def Nk:Sp->Bool
 | .i _=>false
 | .j _=>false
 | _=>true
noncomputable def uj:Sp->Ix
 | .i x=>x
 | .j x=>x
 | _=>.a
theorem yK(N:Nm){s:Sp}(h:Nk s=true):gy N s=.au [.str (N.n s.x),.bl false,Iq s,.aL]:=by cases s<;>first | rfl | cases h
theorem Nl(N:Nm){s:Sp}(h:Nk s=false):gy N s=.au [.str (N.n s.x),.bl false,Iq s,yt N (uj s)]:=by cases s<;>first | rfl | cases h
theorem LN(c:Nat){N:Nm}(K:bh N){h:List aj}{d:Nat}{V:Vs}(e:h[d]?=some (yO N V))(hz:Vz N V){r:Rw}(ok:yG N V r)(hr:IM r≠none\/∃s t,r=.eR s t) :
  run aM (c+3) "_law_done" [.ref d,bJ N r] h=some (.ok .aL,h.set d (yO N (c6 N V r))):=by
 have hs:=hz.h K;have hE:h.isEmpty=false:=fj e;have nr:∀l,ao (.ref d::l)=false:=jL d
 have nm:=λo ho=>wG c K e hs (o:=o) ho
 have ke:=λs=>mN K e s
 have sk:∀s v ρ,nH (.ref d) (pK N s) v ⟨ρ,h⟩=some ⟨ρ,h.set d (Nj N (fg (raw V) v s))⟩:=λs v ρ=>Rh K (A:=raw V) e s
 have nn:∀x,d8 (yt N x)=false:=λx=>by cases x<;>rfl
 have Wh:∀s x,Eb s=true->Nj N (fg (raw V) (.int x) s)=yO N (wA N V x s):=λs x hn=>by
  rw[rM,<-mL];cases s<;>first | rfl | cases hn
 have Wi:∀s x,Nk s=false->Nj N (fg (raw V) (stP ((gr V s).set (iu V (gr V s).length (uj s)) x)) s)=yO N (wA N V x s):=λs x hn=>by
  rw[rM,<-mL];cases s<;>first | rfl | cases hn
 have spn:∀s,QQ V s->(Eb s=true/\Nk s=true)\/(Nk s=false/\1<=(gr V s).length/\(gr V s).length<=8/\iu V (gr V s).length (uj s)<(gr V s).length/\Sf V s=stP (gr V s)):=λs h=>by
  have lt:∀(L:List Int) x,1<=L.length->(∀i,x=Ix.at i->i<L.length)->iu V L.length x<L.length:=λL x h1 h2=>by
   cases x with
   | «at» i=>exact h2 i rfl
   | a=>exact mod_lt h1
   | b=>exact mod_lt h1
  cases s with
  | a=>exact .inl ⟨rfl,rfl⟩
  | b=>exact .inl ⟨rfl,rfl⟩
  | d=>exact .inl ⟨rfl,rfl⟩
  | n=>exact .inl ⟨rfl,rfl⟩
  | c=>exact absurd h id
  | s=>exact absurd h id
  | i x=>exact .inr ⟨rfl,hs.c,hz.c8 K,lt V.c x hs.c λi hi=>by rw[hi]at h;exact h,rfl⟩
  | j x=>exact .inr ⟨rfl,hs.s,hz.s8 K,lt V.s x hs.s λi hi=>by rw[hi]at h;exact h,rfl⟩
 have Mz:∀s x,(gr V s).length<=8->iu V (gr V s).length (uj s)<(gr V s).length->(∀h,J5 h none (some (iu V (gr V s).length (uj s):Int)) (stP (gr V s))=some (.au (((gr V s).take (iu V (gr V s).length (uj s))).map .int)))/\(∀h,J5 h (some ((iu V (gr V s).length (uj s)+1:Nat):Int)) none (stP (gr V s))=some (.au (((gr V s).drop (iu V (gr V s).length (uj s)+1)).map .int)))/\(∀h,gh h (.au (((gr V s).take (iu V (gr V s).length (uj s))).map .int)) (.au [.int x])=some (.au (((gr V s).take (iu V (gr V s).length (uj s))++[x]).map .int)))/\(∀h,gh h (.au (((gr V s).take (iu V (gr V s).length (uj s))++[x]).map .int)) (.au (((gr V s).drop (iu V (gr V s).length (uj s)+1)).map .int))=some (stP ((gr V s).set (iu V (gr V s).length (uj s)) x)))/\∀h,gh h (.int (iu V (gr V s).length (uj s):Int)) (.int 1)=some (.int ((iu V (gr V s).length (uj s)+1:Nat):Int)):=λs x i3 i4=>by
  refine⟨λh=>?_,λh=>?_,λh=>(wu i4 i3).1,λh=>(wu i4 i3).2,λh=>rfl⟩
  ·show some (PV.au (i8 ((gr V s).map .int) none _))=_;rw[HY _ _ (by lia)]
  ·show some (PV.au (i8 ((gr V s).map .int) (some ((iu V (gr V s).length (uj s)+1:Nat):Int)) none))=_;rw[HZ _ _ (by lia)]
 have e9:=λh L=>mK (L:=L) (h:=h)
 rw[DW];cases r with
 | eR s t =>
  have hc:=ok.c s t rfl;have p1:Nk s=true/\Nk t=true/\Sf V t=sL V t:=by
   rcases hc with⟨h1,h2⟩ | ⟨h1,h2⟩<;>cases s<;>cases t<;>first | exact⟨rfl,rfl,rfl⟩ | exact absurd h1 cf | exact absurd h2 cf
  have kt:=ke t;have ks:=sk s (sL V t);rw[p1.2.2]at kt;have jc:Nj N (fg (raw V) (sL V t) s)=yO N (c6 N V (.eR s t)):=by
   rw[rM,Ih V hc];rfl
  rw[jc]at ks;unfold pK at kt ks;simp only[↓bI,bJ,yK N p1.1,yK N p1.2.1,kt,ks,hE,nr,aT,aS]
 | put s o =>
  have n0:=nm o (ok.o o (by simp[bP])).1
  have sp:QQ V s:=by
   rcases ok.t s rfl with⟨_,h⟩ | ⟨⟨o,h⟩,_⟩ | ⟨⟨g,o,p,h⟩,_⟩
   ·exact h
   ·cases h
   ·cases h
  rcases spn s sp with⟨i1,i2⟩ | ⟨i1,i2,i3,i4,i5⟩
  ·have ks:=sk s (.int (opV V o));rw[Wh s _ i1]at ks;unfold pK at ks;simp only[↓bI,bJ,yK N i2,n0,ks,hE,nr,aT,aS];rfl
  ·have kt:=ke s;rw[i5]at kt;have ks:=sk s (stP ((gr V s).set (iu V (gr V s).length (uj s)) (opV V o)));rw[Wi s _ i1]at ks;unfold pK at kt ks;have px:=mO (c+1) K e (uj s) i2;obtain⟨c1,c2,c3,c4,ad⟩:=Mz s (opV V o) i3 i4;simp only[↓bI,bJ,Nl N i1,nn,n0,kt,e9,px,c1,c2,c3,c4,ad,ks,hE,nr,aT,aS];rfl
 | fill s o =>
  have n0:=nm o (ok.o o (by simp[bP])).1
  have sp:Nk s=true/\Sf V s=stP (gr V s)/\Nj N (fg (raw V) (stP (List.replicate (gr V s).length (opV V o))) s)=yO N (wA N V (opV V o) s)/\(gr V s).length<=8:=by
   rcases ok.t s rfl with⟨⟨o,h⟩,_⟩ | ⟨_,h⟩ | ⟨⟨g,o,p,h⟩,_⟩
   ·cases h
   ·rcases h with rfl | rfl
    ·refine⟨rfl,rfl,?_,hz.c8 K⟩;rw[rM,<-mL,show(gr V .c).length=N.z from hz.c]
     rfl
    ·refine⟨rfl,rfl,?_,hz.s8 K⟩;rw[rM,<-mL,show(gr V .s).length=N.y from hz.s]
     rfl
   ·cases h
  obtain⟨i1,i2,i3,i4⟩:=sp;have kt:=ke s;rw[i2]at kt;have ks:=sk s (stP (List.replicate (gr V s).length (opV V o)));rw[i3]at ks;unfold pK at kt ks;have rep:=λh=>pe (h:=h) (x:=opV V o) i4
  simp only[↓bI,bJ,yK N i1,n0,kt,e9,rep,ks,hE,nr,aT,aS];rfl
 | set s g o p =>
  have n0:=nm o (ok.o o (by simp[bP])).1
  have n1:=nm p (ok.o p (by simp[bP])).1
  have nk:=Ef (c+1) (g:=g) (ok.o o (by simp[bP])).2 (ok.o p (by simp[bP])).2
  have n2:run aM (c+2) "_law_number" [.ref d,.str (Lh g)] h=some (.ok (.str (Lh g)),h):=by
   rw[nU];simp only[↓bI]
  have nr3:ao [.str (Lh g),.int (opV V o),.int (opV V p)]=true:=rfl;have sp:QQ V s:=by
   rcases ok.t s rfl with⟨⟨o,h⟩,_⟩ | ⟨⟨o,h⟩,_⟩ | ⟨_,h⟩
   ·cases h
   ·cases h
   ·exact h
  rcases spn s sp with⟨i1,i2⟩ | ⟨i1,i2,i3,i4,i5⟩
  ·have ks:=sk s (.int (QP g (opV V o) (opV V p)));rw[Wh s _ i1]at ks;unfold pK at ks;simp only[↓bI,bJ,yK N i2,n0,n1,n2,nk,nr3,ks,hE,nr,aT,aS,cE,cD];rfl
  ·have kt:=ke s;rw[i5]at kt;have ks:=sk s (stP ((gr V s).set (iu V (gr V s).length (uj s)) (QP g (opV V o) (opV V p))));rw[Wi s _ i1]at ks;unfold pK at kt ks;have px:=mO (c+1) K e (uj s) i2;obtain⟨c1,c2,c3,c4,ad⟩:=Mz s (QP g (opV V o) (opV V p)) i3 i4;simp only[↓bI,bJ,Nl N i1,nn,n0,n1,n2,nk,nr3,kt,e9,px,c1,c2,c3,c4,ad,ks,hE,nr,aT,aS,cE,cD];rfl
 | _ =>
  rcases hr with h | ⟨s,t,h⟩
  ·exact absurd rfl h
  ·cases h
end bH
set_option maxHeartbeats 4000000
namespace bH
open PySem L2 L2.U
theorem rN{h:List aj}{d:Nat}{ks:List (bQ×List bQ)}{ps:List PV}{pk v:PV}{k:bQ×List bQ}{ρ:List (Option PV)}(e:h[d]?=some ⟨.eQ true ks,ps⟩)(hk:fU true pk=some k)(hn:mj k ks=false)(hl:ks.length<100) :
  nH (.ref d) pk v ⟨ρ,h⟩=some ⟨ρ,h.set d ⟨.eQ true (ks++[k]),ps++[v]⟩⟩:=by
 show((i9 h (.ref d)).bind λc=>match c.2.k with
  | .lst=>(nC pk).bind λi=>(Dc c.2.ps.length i).map λj=>(⟨ρ,h.set c.1 ⟨.lst,c.2.ps.set j v⟩⟩:bY)
  | .eQ t mQ=>(fU t pk).bind λk=>if mQ.length<ic then some ⟨ρ,h.set c.1 (iH t k v mQ c.2.ps)⟩else none
  | _=>none)=_
 rw[dC e rfl];show((fU true pk).bind λk=>if ks.length<ic then some (⟨ρ,h.set d (iH true k v ks ps)⟩:bY)else none)=_
 rw[hk];refine(if_pos (jm hl (by decide))).trans ?_
 unfold iH;rw[hn];rfl
theorem Ir(c:Nat){N:Nm}(K:bh N){F:List Rw}{x:Int}:run aM (c+1) "_law_begin" [.au [fdP N F],.int x] []=some (.ok (.ref 0),[yO N (nN N x)]):=by
 have nq:∀{x y:N5} {p q:List bQ},x≠y->¬((.inr (N.n x),p):bQ×List bQ)=(.inr (N.n y),q):=λhx z=>by
  injection z with z1 _
  injection z1 with z2
  exact hx (K.n z2)
 have nh:∀(y:N5) (p:List bQ) (L:List (N5×List bQ)),(∀z∈L,y≠z.1\/p≠z.2)->mj (.inr (N.n y),p) (L.map λz=>(.inr (N.n z.1),z.2))=false:=λy p L hL=>by
  unfold mj;rw[zj];intro k hk;obtain⟨z,hz,rfl⟩:=bX.mp hk;rcases hL z hz with h | h
  ·simp[nq (p:=p) (q:=z.2) h];intro h2;exact absurd (K.n h2).symm h
  ·simp;intro _ h2;exact absurd h2.symm h
 have sb:∀ρ u v,nH (.ref 0) (.au [.str (N.n .b),.au []]) v ⟨ρ,[⟨.eQ true (List.append [] [(.inr (N.n .a),[])]),[u]⟩]⟩=some ⟨ρ,[⟨.eQ true [kK N .a,kK N .b],[u,v]⟩]⟩:=λρ u v=>rN (h:=[⟨.eQ true [kK N .a],[u]⟩]) (d:=0) (ks:=[kK N .a]) rfl (lF N .b) (nh .b [] [(.a,[])] (by simp)) (by simp)
 have sc:∀ρ u v w,nH (.ref 0) (.au [.str (N.n .c),.au []]) w ⟨ρ,[⟨.eQ true [kK N .a,kK N .b],[u,v]⟩]⟩=some ⟨ρ,[⟨.eQ true [kK N .a,kK N .b,kK N .c],[u,v,w]⟩]⟩:=λρ u v w=>rN (h:=[⟨.eQ true [kK N .a,kK N .b],[u,v]⟩]) (d:=0) (ks:=[kK N .a,kK N .b]) rfl (lF N .c) (nh .c [] [(.a,[]),(.b,[])] (by simp)) (by simp)
 have sd:∀ρ u v w y,nH (.ref 0) (.au [.str (N.n .d),.au []]) y ⟨ρ,[⟨.eQ true [kK N .a,kK N .b,kK N .c],[u,v,w]⟩]⟩=some ⟨ρ,[⟨.eQ true [kK N .a,kK N .b,kK N .c,kK N .d],[u,v,w,y]⟩]⟩:=λρ u v w y=>rN (h:=[⟨.eQ true [kK N .a,kK N .b,kK N .c],[u,v,w]⟩]) (d:=0) (ks:=[kK N .a,kK N .b,kK N .c]) rfl (lF N .d) (nh .d [] [(.a,[]),(.b,[]),(.c,[])] (by simp)) (by simp)
 have sn:∀ρ u v w y z,nH (.ref 0) (.au [.str (N.n .e),.au [.int 0]]) z ⟨ρ,[⟨.eQ true [kK N .a,kK N .b,kK N .c,kK N .d],[u,v,w,y]⟩]⟩=some ⟨ρ,[⟨.eQ true [kK N .a,kK N .b,kK N .c,kK N .d,kK N .n],[u,v,w,y,z]⟩]⟩:=λρ u v w y z=>rN (h:=[⟨.eQ true [kK N .a,kK N .b,kK N .c,kK N .d],[u,v,w,y]⟩]) (d:=0) (ks:=[kK N .a,kK N .b,kK N .c,kK N .d]) rfl (lF N .n) (nh .e [.inl 0] [(.a,[]),(.b,[]),(.c,[]),(.d,[])] (by simp)) (by simp)
 have ss:∀ρ u v w y z t,nH (.ref 0) (.au [.str (N.n .e),.au [.int 1]]) t ⟨ρ,[⟨.eQ true [kK N .a,kK N .b,kK N .c,kK N .d,kK N .n],[u,v,w,y,z]⟩]⟩=some ⟨ρ,[⟨.eQ true [kK N .a,kK N .b,kK N .c,kK N .d,kK N .n,kK N .s],[u,v,w,y,z,t]⟩]⟩:=λρ u v w y z t=>rN (h:=[⟨.eQ true [kK N .a,kK N .b,kK N .c,kK N .d,kK N .n],[u,v,w,y,z]⟩]) (d:=0) (ks:=[kK N .a,kK N .b,kK N .c,kK N .d,kK N .n]) rfl (lF N .s) (nh .e [.inl 1] [(.a,[]),(.b,[]),(.c,[]),(.d,[]),(.e,[.inl 0])] (by simp)) (by simp)
 have sa:∀ρ v,G7 (.ref 0) (.au [.str (N.n .a),.au []]) v ⟨ρ,[⟨.eQ true [],[]⟩]⟩=some ⟨ρ,[⟨.eQ true [kK N .a],[v]⟩]⟩:=λρ v=>rfl
 have rz:=λh=>pe (h:=h) (x:=0) K.z8
 have ry:=λh=>pe (h:=h) (x:=0) K.y8
 rw[AQ];simp only[↓bI,fdP,sJ,kr,yq,yr,Lg,aQ,di,sa,sb,sc,sd,sn,ss,rz,ry];rfl
end bH
set_option maxHeartbeats 4000000
namespace bH
open PySem L2 L2.U
theorem CJ(c:Nat){N:Nm}(K:bh N){h:List aj}{d:Nat}{V:Vs}(e:h[d]?=some (yO N V))(hs:Hs V){r:Rw}(ho:V7 r=true->∀o∈bP r,AV V o)(hg:r≠.cV)(k:Nat) :
  run aM (c+3) "_law_next" [.ref d,bJ N r,.int (k:Int)] h=some (.ok (.int (lD V k r:Int)),h):=by
 have hE:h.isEmpty=false:=fj e;have nr:∀l,ao (.ref d::l)=false:=jL d
 have ad:∀h,gh h (.int (k:Int)) (.int 1)=some (.int ((k+1:Nat):Int)):=λh=>rfl
 have w0:∀h,aZ h (bJ N r) (.int 0)=some (.str (we r)):=λh=>by cases r<;>rfl
 rw[DX];by_cases hif:∃o p j,r=.ifs o p j
 ·obtain⟨o,p,j,rfl⟩:=hif;have n0:=wG c K e hs (ho rfl o (by simp[bP]))
  have n1:=wG c K e hs (ho rfl p (by simp[bP]))
  have lt:∀h,TX h (.int (opV V o)) (.int (opV V p))=some (.bl (decide (opV V o<opV V p))):=λh=>rfl
  by_cases oX:opV V o<opV V p
  ·have z:lD V k (.ifs o p j)=j:=if_pos oX;rw[eS oX]at lt;rw[z];simp only[↓bI,bJ,n0,n1,lt,hE,nr,aT,aS]
  ·have z:lD V k (.ifs o p j)=k+1:=if_neg oX;rw[dz oX]at lt;rw[z];simp only[↓bI,bJ,n0,n1,lt,ad,hE,nr,aT,aS]
 ·by_cases hgo:∃j,r=.go j
  ·obtain⟨j,rfl⟩:=hgo;simp only[↓bI,bJ];rfl
  ·have z:lD V k r=k+1:=by
    cases r
    case go j=>exact absurd ⟨j,rfl⟩ hgo
    case ifs o p j=>exact absurd ⟨o,p,j,rfl⟩ hif
    all_goals rfl
   have t1:∀h,lg h (.str (we r)) (.str "go")=some (.bl false):=λh=>by
    cases r
    case go j=>exact absurd ⟨j,rfl⟩ hgo
    all_goals rfl
   have t2:∀h,lg h (.str (we r)) (.str "if")=some (.bl false):=λh=>by
    cases r
    case ifs o p j=>exact absurd ⟨o,p,j,rfl⟩ hif
    all_goals rfl
   rw[z];simp only[↓bI,w0,t1,t2,ad]
end bH
set_option maxHeartbeats 4000000
namespace bH
open PySem L2 L2.U
theorem Wj(N:Nm)(x:N5)(h:List aj):J3 h (II N x) (II N x)=some (.bl false):=by
 obtain⟨T,hT⟩:∃T,toT h jA (II N x)=some T:=⟨_,rfl⟩
 simp[J3,WM,hT,fT]
def wH(N:Nm)(V:Vs)(sd:List Int):List aj:=[yO N V,⟨.lst,sd.map .int⟩]
theorem LO(c:Nat){N:Nm}(K:bh N){F:List Rw}{V:Vs}{r:Rw}{i cnt:Nat}{sd:List Int}{x1 x2 x7:Option PV}(hr:F[i]?=some r)(hg:r≠.cV)(hz:Vz N V)(Ys:Vz N (c6 N V r))(ok:yG N V r)(hs:sd.length<=4000) :
  ir (run aM (c+4)) ⟨[some (.au [fdP N F]),x1,x2,some (.ref 0),some (.ref 1),some (.int (i:Int)),some (.int (cnt:Int)),x7],wH N V sd⟩=some (.ok .nx,⟨[some (.au [fdP N F]),x1,x2,some (.ref 0),some (.ref 1),some (.int (lD V i r:Int)),some (.int (cnt:Int)),some (bJ N r)],wH N (c6 N V r) (sd++ui V r)⟩):=by
 have p4:∀h,aZ h (fdP N F) (.int 4)=some (.au (F.map (bJ N))):=λh=>rfl
 have pi:∀h,aZ h (.au (F.map (bJ N))) (.int (i:Int))=some (bJ N r):=λh=>atI_nat (by rw[cQ,hr];rfl)
 obtain⟨h,hh⟩:∃h,wH N V sd=h:=⟨_,rfl⟩
 obtain⟨h',Wk⟩:∃h,wH N (c6 N V r) (sd++ui V r)=h:=⟨_,rfl⟩
 have e0:h[0]?=some (yO N V):=by rw[<-hh];rfl
 have Xg:h'[0]?=some (yO N (c6 N V r)):=by rw[<-Wk];rfl
 have d1:=ak (show h[1]?=some ⟨.lst,sd.map .int⟩ by rw[<-hh];rfl) rfl
 have hE:h.isEmpty=false:=fj e0;have IL:h'.isEmpty=false:=fj Xg;have nr:∀l,ao (.ref 0::l)=false:=jL 0
 rw[hh,Wk];have nx:run aM (c+4) "_law_next" [.ref 0,bJ N r,.int (i:Int)] h'=some (.ok (.int (lD V i r:Int)),h'):=by
  by_cases z:V7 r=true
  ·have sv:c6 N V r=V:=by cases r<;>first | rfl | cases z
   rw[sv]at Xg;exact CJ (c+1) K Xg (hz.h K) (λ_ o ho=>(ok.o o ho).1) hg i
  ·have:=CJ (c+1) K Xg (Ys.h K) (λz'=>absurd z' z) hg i
   have e:lD (c6 N V r) i r=lD V i r:=by cases r<;>first | rfl | exact absurd rfl z
   rw[e]at this;exact this
 have same:c6 N V r=V->ui V r=[]->h'=h:=λz1 z2=>by rw[<-Wk,<-hh,z1,z2,cY]
 have dn:(IM r≠none\/∃s t,r=.eR s t)->run aM (c+4) "_law_done" [.ref 0,bJ N r] h=some (.ok .aL,h'):=λhd=>by
  rw[LN (c+1) K e0 hz ok hd,<-hh,<-Wk,show ui V r=[] by rcases hd with z | ⟨s,t,rfl⟩<;>first | rfl | (cases r<;>first | rfl | exact absurd rfl z),cY]
  rfl
 refine bA ?_
 delta ir gq
 have w0:∀h,aZ h (bJ N r) (.int 0)=some (.str (we r)):=λh=>by cases r<;>rfl
 by_cases hd:IM r≠none\/∃s t,r=.eR s t
 ·have dn:=dn hd;have t1:∀h,lg h (.str (we r)) (.str "give")=some (.bl false):=λh=>by cases r<;>first | rfl | exact absurd rfl hg
  have t2:∀h,lg h (.str (we r)) (.str "say")=some (.bl false):=λh=>by
   cases r
   case j9 o=>rcases hd with z | ⟨s,t,z⟩<;>first | exact absurd rfl z | cases z
   all_goals rfl
  have t3:∀h,F0 false h (.str (we r)) (.au [.str "put",.str "set",.str "fill",.str "copy"])=some (.bl true):=λh=>by
   rcases hd with z | ⟨s,t,rfl⟩
   ·cases r<;>first | rfl | exact absurd rfl z
   ·rfl
  simp only[↓gk,p4,pi,w0,t1,t2,t3,dn,nx,hE,IL,nr,aT,aS]
 ·by_cases Xh:(∃o p j,r=.ifs o p j)\/∃j,r=.go j
  ·have sm:c6 N V r=V/\ui V r=[]:=by rcases Xh with⟨o,p,j,rfl⟩ | ⟨j,rfl⟩<;>exact⟨rfl,rfl⟩
   cases same sm.1 sm.2;have ts:∀h,lg h (.str (we r)) (.str "give")=some (.bl false)/\lg h (.str (we r)) (.str "say")=some (.bl false)/\lg h (.str (we r)) (.str "move")=some (.bl false)/\F0 false h (.str (we r)) (.au [.str "put",.str "set",.str "fill",.str "copy"])=some (.bl false):=λh=>by rcases Xh with⟨o,p,j,rfl⟩ | ⟨j,rfl⟩<;>exact⟨rfl,rfl,rfl,rfl⟩
   have t1:=λh=>(ts h).1
   have t2:=λh=>(ts h).2.1
   have t3:=λh=>(ts h).2.2.1
   have t4:=λh=>(ts h).2.2.2
   simp only[↓gk,p4,pi,w0,t1,t2,t3,t4,nx,hE,IL,nr,aT,aS]
  cases r with
  | j9 o =>
   have n0:=wG (c+2) K e0 (hz.h K) (ok.o o (by simp[bP])).1
   have ap:∀ρ,fu (dN fw) (.ref 1) [.int (opV V o)] ⟨ρ,h⟩=some (.ok .aL,⟨ρ,h'⟩):=λρ=>by
    rw[wo (h:=h) (n:=1) (L:=sd.map .int) (by rw[<-hh];rfl) (by rw[aU];lia),<-hh,<-Wk]
    simp[wH,ui,c6]
   have nx:run aM (c+4) "_law_next" [.ref 0,.au [.str "say",i6 N o],.int (i:Int)] h'=_:=nx;simp only[↓gk,p4,pi,bJ,n0,d1,ap,nx,hE,IL,nr,aT,aS]
  | gU x =>
   cases same rfl rfl;have ne:=Wj N x;have nx:run aM (c+4) "_law_next" [.ref 0,.au [.str "move",II N x,II N x],.int (i:Int)] h=_:=nx;simp only[↓gk,p4,pi,bJ,ne,nx,hE,IL,nr,aT,aS]
  | ifs o p j=>exact absurd (.inl ⟨o,p,j,rfl⟩) Xh
  | go j=>exact absurd (.inr ⟨j,rfl⟩) Xh
  | cV=>exact absurd rfl hg
  | eR s t=>exact absurd (.inr ⟨s,t,rfl⟩) hd
  | _=>exact absurd (.inl (by simp[IM])) hd
end bH
set_option maxHeartbeats 4000000
namespace bH
open PySem L2 L2.U
theorem fRt{g:Tg}{b:Gx dB}{p v:PV}{ps:List PV}{s s1 s2:bY}(h0:g p s=some s1)(h1:b s1=some (.ok (.rt v),s2)):fS g b (p::ps) s=some (.ok (.rt v),s2):=by
 exact eB (show stp (g p) s=some (.ok .nx,s1)from Vw h0) (eB h1 rfl)
theorem LP(c:Nat){N:Nm}{F:List Rw}{V:Vs}{i cnt:Nat}{sd:List Int}{x1 x2 x7:Option PV}(hr:F[i]?=some .cV) :
  ir (run aM (c+4)) ⟨[some (.au [fdP N F]),x1,x2,some (.ref 0),some (.ref 1),some (.int (i:Int)),some (.int (cnt:Int)),x7],wH N V sd⟩=some (.ok (.rt (.au [.str "done",.ref 1,.int ((cnt+1:Nat):Int)])),⟨[some (.au [fdP N F]),x1,x2,some (.ref 0),some (.ref 1),some (.int (i:Int)),some (.int (cnt:Int)),some (bJ N .cV)],wH N V sd⟩):=by
 have p4:∀h,aZ h (fdP N F) (.int 4)=some (.au (F.map (bJ N))):=λh=>rfl
 have pi:∀h,aZ h (.au (F.map (bJ N))) (.int (i:Int))=some (bJ N .cV):=λh=>atI_nat (by rw[cQ,hr];rfl)
 have ad:∀h,gh h (.int (cnt:Int)) (.int 1)=some (.int ((cnt+1:Nat):Int)):=λh=>rfl
 obtain⟨h,hh⟩:∃h,wH N V sd=h:=⟨_,rfl⟩
 rw[hh];refine bA ?_
 delta ir gq
 simp only[↓gk,p4,pi,bJ,ad]
theorem LQ(c:Nat){N:Nm}(K:bh N){F:List Rw}(P:oC N F){most:Nat}(hm:most<=4000){x1 x2:Option PV}:∀(k cnt i:Nat) (V:Vs) (sd:List Int) (x6 x7:Option PV),oQ N V->i<F.length->cnt+k=most->sd.length<=cnt ->
  ∃V' w yJ iP q ρ,runN N F k cnt i V sd=(w,yJ,iP)/\yJ.length<=most /\
   ((q=dB.rt (.au [.str "done",.ref 1,.int (iP:Int)])/\w="done")\/(q=dB.nx/\w="more"/\iP=most/\∃y5 y6 y7,ρ=[some (.au [fdP N F]),x1,x2,some (.ref 0),some (.ref 1),y5,y6,y7])) /\
   fS (dh 6) (ir (run aM (c+4))) ((List.range' cnt k).map λm:Nat=>.int (m:Int)) ⟨[some (.au [fdP N F]),x1,x2,some (.ref 0),some (.ref 1),some (.int (i:Int)),x6,x7],wH N V sd⟩=some (.ok q,⟨ρ,wH N V' yJ⟩):=by
 intro k;induction k with
 | zero =>
  intro cnt i V sd x6 x7 hV hi hc hs;exact⟨V,"more",sd,cnt,_,_,rfl,by lia,.inr ⟨rfl,rfl,by lia,_,_,_,rfl⟩,rfl⟩
 | succ k ih =>
  intro cnt i V sd x6 x7 hV hi hc hs;rw[List.range'_succ,aQ];obtain⟨r,hr⟩:∃r,F[i]?=some r:=⟨_,eE hi⟩
  by_cases hg:r=.cV
  ·subst hg;have e:=LP c (N:=N) (V:=V) (cnt:=cnt) (sd:=sd) (x1:=x1) (x2:=x2) (x7:=x7) hr;refine⟨V,"done",sd,cnt+1,_,_,?_,by lia,.inl ⟨rfl,rfl⟩,fRt (s1:=⟨[some (.au [fdP N F]),x1,x2,some (.ref 0),some (.ref 1),some (.int (i:Int)),some (.int (cnt:Int)),x7],wH N V sd⟩) rfl e⟩
   show(match F[i]? with
    | none=>_
    | some .cV=>_
    | some r=>_)=_
   rw[hr]
  ·obtain⟨ok,cp,nx⟩:=P.row i r hr hg;have V':=CI hV (ok V hV) cp;have e:=LO c K (cnt:=cnt) (sd:=sd) (x1:=x1) (x2:=x2) (x7:=x7) hr hg hV.z V'.z (ok V hV) (by lia)
   have hsl:=Io V r;obtain⟨V2,w,yJ,iP,q,ρ,y1,y2,y3,y4⟩:=ih (cnt+1) (lD V i r) (c6 N V r) (sd++ui V r) (some (.int (cnt:Int))) (some (bJ N r)) V' (nx V) (by lia) (by rw[bO];lia)
   refine⟨V2,w,yJ,iP,q,ρ,by rw[yI hr hg];exact y1,y2,y3,?_⟩
   exact fC (s1:=⟨[some (.au [fdP N F]),x1,x2,some (.ref 0),some (.ref 1),some (.int (i:Int)),some (.int (cnt:Int)),x7],wH N V sd⟩) rfl e y4
end bH
set_option maxHeartbeats 4000000
namespace bH
open PySem L2 L2.U
theorem LR{n:Nat}(hn:n<=4000000):xH [.int n]=some ((List.range n).map λm:Nat=>.int (m:Int)):=by
 show(if Pj 0 n=true then some (Gg 0 ((n:Int)).toNat)else none)=_
 rw[if_pos (by unfold Pj;exact eS (by lia))]
 unfold Gg;simp
def LU(N:Nm)(F:List Rw)(most:Nat)(x:Int):PV:=.au [.str (runN N F most 0 0 (nN N x) []).1,.lst ((runN N F most 0 0 (nN N x) []).2.1.map .int),.int ((runN N F most 0 0 (nN N x) []).2.2:Int)]
theorem LV{N:Nm}{V:Vs}{w:Str}{sd:List Int}{cnt:Nat}:gM (wH N V sd) (.au [.str w,.ref 1,.int (cnt:Int)])=some (.au [.str w,.lst (sd.map .int),.int (cnt:Int)]):=by
 unfold gM;rw[if_neg (show ¬(wH N V sd).isEmpty=true from cf)]
 have d4:lI (wH N V sd) 3 (.ref 1)=some (.lst (sd.map .int)):=by
  show(dO (lI (wH N V sd) 2) (sd.map .int)).map (PV.nd Kd.lst)=_;rw[mI (fO (λ_=>rfl) sd)]
  rfl
 show((some (PV.str w)).bind λa=>((lI (wH N V sd) 3 (.ref 1)).bind λb=>((some (PV.int (cnt:Int))).bind λd=>(some []).map λr=>d::r).map λr=>b::r).map λr=>a::r).map (PV.nd Kd.au)=_
 rw[d4];rfl
theorem LW{N:Nm}{x:Int}(hx:Bd x):oQ N (nN N x):=by
 have b0:Bd 0:=⟨pV _,by decide +kernel⟩
 refine⟨⟨jh,jh⟩,hx,b0,b0,b0,λy hy=>?_,λy hy=>?_⟩
 ·rw[kB hy];exact b0
 ·rw[kB hy];exact b0
theorem Rj(c:Nat){N:Nm}(K:bh N){F:List Rw}(P:oC N F)(h0:0<F.length){x:Int}(hx:Bd x){most:Nat}(hm:most<=4000) :
  ∃p h',run aM (c+5) "_law_due" [.au [fdP N F],.int x,.int (most:Int)] []=some (.ok p,h')/\gM h' p=some (LU N F most x)/\(runN N F most 0 0 (nN N x) []).2.1.length<=4000:=by
 obtain⟨V',w,sd,cnt,q,ρ,y1,y2,y3,y4⟩:=LQ c K P hm (x1:=some (.int x)) (x2:=some (.int (most:Int))) most 0 0 (nN N x) [] none none (LW hx) h0 (by lia) (by simp)
 have aai:LU N F most x=.au [.str w,.lst (sd.map .int),.int (cnt:Int)]:=by unfold LU;rw[y1]
 rw[aai,y1];have rg:xH [.int (most:Int)]=some ((List.range' 0 most).map λm:Nat=>.int (m:Int)):=by rw[LR (by lia),List.range_eq_range']
 have bg:=Ir (c+3) K (F:=F) (x:=x)
 delta ir gq wH at y4
 have nr:ao [.au [fdP N F],.int x]=true:=by simp[ao,noRef,nX]
 obtain⟨E,hE⟩:∃E,E=yO N (nN N x):=⟨_,rfl⟩
 rw[<-hE]at bg y4;rw[show((0:Nat):Int)=0 from rfl,di]at y4
 refine⟨.au [.str w,.ref 1,.int (cnt:Int)],wH N V' sd,?_,LV,aY y2 hm⟩;rw[HB];rcases y3 with⟨rfl,rfl⟩ | ⟨rfl,rfl,rfl,_,_,_,rfl⟩
 ·simp only[↓bI,rg,bg,nr,y4,di];rfl
 ·simp only[↓bI,rg,bg,nr,y4,di];rfl
end bH
set_option maxHeartbeats 4000000
namespace bH
open PySem L2 L2.U
theorem Iu(c:Nat)(x:Int):run aM (c+1) "_law_whole" [.int x] []=some (.ok (.bl true),[]):=by
 rw[AN];simp only[↓bI];rfl
theorem toT_ints(h:List aj)(n:Nat):∀l:List Int,dO (toT h (n+1)) (l.map PV.int)=some (l.map Tr.int)
 | []=>rfl
 | x::l=>by
  show(some (Tr.int x)).bind (λy=>(dO (toT h (n+1)) (l.map PV.int)).map λr=>y::r)=_
  rw[toT_ints h n l];rfl
theorem LX(l:List Int):∀h,lg h (.lst (l.map .int)) (.lst (l.map .int))=some (.bl true):=λh=>by
 obtain⟨m,hm⟩:∃m,jA=m+2:=⟨_,rfl⟩
 have e:toT h jA (.lst (l.map .int))=some (.lst (l.map Tr.int)):=by
  rw[hm];show(dO (toT h (m+1)) (l.map PV.int)).bind (T3 .lst)=_;rw[toT_ints];rfl
 show(((toT h jA _).bind λx=>(toT h jA _).map λy=>eqT x y).map PV.bl)=_
 rw[e];show some (PV.bl (eqT _ _))=_;rw[fT]
theorem LY(w:Str):∀h,J3 h (.str w) (.str w)=some (.bl false):=λh=>by
 show some (PV.bl (!(eqT (.str w) (.str w))))=_;rw[fT];rfl
theorem Eg(n:Int):∀h,lg h (.int n) (.int n)=some (.bl true):=λh=>by
 show some (PV.bl (eqT (.int n) (.int n)))=_;rw[fT]
theorem uk{bd:PV->List aj->Option (Option PV×List aj)}{h:List aj}(H:∀x:Int,bd (.int x) h=some (none,h)):∀l:List Int,fy bd (l.map PV.int) h=some ([],h)
 | []=>rfl
 | x::l=>by
  show(bd (.int x) h).bind (λr=>(fy bd (l.map PV.int) r.2).map λs=>(r.1.toList++s.1,s.2))=_
  rw[H x];show(fy bd (l.map PV.int) h).map _=_;rw[uk H l];rfl
theorem LZ(c:Nat)(w:Str){l:List Int}(hl:l.length<=9000)(n:Int):run aM (c+2) "_law_told" [.au [.str w,.lst (l.map .int),.int n,.au []],.au [.str w,.lst (l.map .int),.int n]] []=some (.ok (.bl true),[]):=by
 have e1:=λx=>Iu c x
 have e2:=LX l;have e3:∀h,J3 h (.lst []) (.lst [])=some (.bl false):=λh=>rfl
 have e4:=LY w;have e5:=Eg n;have e6:∀h,J3 h (.au []) (.au [])=some (.bl false):=λh=>rfl
 have hl':l.length<=4000000:=aY hl (by decide)
 have cp:=λx1:Option PV=>uk (bd:=xF (dh 1) (JT (vk (bnd (iV (rd 1) (cA [])) (mC 0 1 (run aM (c+1) "_law_whole"))))) (rd 1) [none,x1]) (h:=[]) (λx=>e2F (ME:=[none,some (.int x)]) (h1:=[]) rfl (by
  refine bA ?_;simp only[↓gk,e1];rfl)) l
 rw[DY];simp only[↓bI,e1,e2,e3,e4,e5,e6,cp,hl',aU]
end bH
set_option maxHeartbeats 4000000
namespace bH
open PySem L2 L2.U
theorem fx{h:List aj}{i j:Int}(hj:0<j):cB h (.int i) (.int j)=some (.int (i%j)):=if_pos (eS hj)
theorem oR{h:List aj}{i j:Int}(hj:0<j/\j<1073741824):gI h (.int i) (.int j)=some (.int (i/j)):=if_pos (eS hj)
theorem Nn{h:List aj}{i j:Int}(hj:(-ot<i/\i<ot)\/(-ot<j/\j<ot)):jG h (.int i) (.int j)=some (.int (i*j)):=if_pos (.inl hj)
theorem aaj{ρ:List (Option PV)}{F:List PV}{v:PV}(h:F.length<=4000):fu (dN fw) (.ref 0) [v] ⟨ρ,[⟨.lst,F⟩]⟩=some (.ok .aL,⟨ρ,[⟨.lst,F++[v]⟩]⟩):=wo (h:=[⟨.lst,F⟩]) rfl h
noncomputable def cp(n:Int):Nat:=97+(n%26).toNat
def lt(n:Int):Str:=⟨#[cp n]⟩
def strOf(l:List Nat):Str:=⟨l.toArray⟩
theorem um{a b:List Nat}(h:strOf a=strOf b):a=b:=by
 have:a.toArray=b.toArray:=eU Str.cps h;simpa using this
theorem A8(a b:List Nat):strOf a++strOf b=strOf (a++b):=by
 show Str.append _ _=_;unfold Str.append strOf;simp
theorem CK:(Str.ofString "")=strOf []:=by decide +kernel
theorem CL(l:List Nat):(strOf l).length=l.length:=by
 unfold strOf Str.length;simp
theorem A9:∀m:Fin 26,L2.rV (Str.ofString "abcdefghijklmnopqrstuvwxyz").cps.toList ((m:Nat):Int)=some (97+(m:Nat)):=by decide +kernel
theorem uo{h:List aj}{n:Int}:aZ h (.str "abcdefghijklmnopqrstuvwxyz") (.int (n%26))=some (.str (lt n)):=by
 have h0:=ib n (show(26:Int)≠0 by decide)
 obtain⟨m,hm⟩:=Int.eq_ofNat_of_zero_le h0;have:=A9 ⟨m,by lia⟩
 show(if(Str.ofString "abcdefghijklmnopqrstuvwxyz").length<=ic then(L2.rV (Str.ofString "abcdefghijklmnopqrstuvwxyz").cps.toList (n%26)).map λc=>PV.str ⟨#[c]⟩else none)=_
 rw[if_pos (by decide +kernel),hm,this]
 show some (PV.str ⟨#[97+m]⟩)=some (PV.str ⟨#[cp n]⟩);unfold cp;rw[hm,kL]
theorem Rk{a b:Int}(h:cp a=cp b):a%26=b%26:=by
 unfold cp at h
 lia
theorem Iv{l:List Nat}{n:Int}{h:List aj}(hl:l.length<=100):gh h (.str (strOf l)) (.str (lt n))=some (.str (strOf (l++[cp n]))):=by
 have e:gh h (.str (strOf l)) (.str (lt n))=U.sizeOk ((strOf l).length+(lt n).length) (.str (strOf l++lt n)):=rfl;rw[e,show lt n=strOf [cp n]from rfl,A8,CL,CL]
 exact if_pos (show l.length+1<=ic by have:ic=4000000:=rfl;lia)
noncomputable abbrev Rl:PV:=.str "abcdefghijklmnopqrstuvwxyz"
def Rm(B:List Int)(a q i:Nat):Nat:=cp (B.getD i 0+(q:Int)*(if i=a then 1 else 0))
theorem nY(c:CT){x0 x1 x6:Option PV}{h0:List aj}(B:List Int)(a q:Nat)(hB:B.length<=50):∀(Xi pre:List Nat) (x8:Option PV),List.range B.length=pre++Xi->∃L0,fS (dh 8) (rj c) (Xi.map λn:Nat=>.int (n:Int)) ⟨[x0,x1,some Rl,some (.int q),some (.lst (B.map .int)),some (.int a),x6,some (.str (strOf (pre.map (Rm B a q)))),x8],h0⟩=some (.ok .nx,⟨[x0,x1,some Rl,some (.int q),some (.lst (B.map .int)),some (.int a),x6,some (.str (strOf ((List.range B.length).map (Rm B a q)))),L0],h0⟩)
 | [],pre,x8,e=>⟨x8,by rw[e,cY];rfl⟩
 | i::Xi,pre,x8,e=>by
  have hi:i<B.length:=uL.mp (by rw[e];simp)
  have hp:pre.length<=B.length:=by
   have:=eU List.length e;rw[pE,bO]at this
   lia
  obtain⟨L0,h⟩:=nY c (x0:=x0) (x1:=x1) (x6:=x6) (h0:=h0) B a q hB Xi (pre++[i]) (some (.int i)) (by rw[e];simp)
  simp only[fF,aQ,di,Rm]at h;refine⟨L0,?_⟩;have hb:∀h,aZ h (.lst (B.map PV.int)) (.int (i:Int))=some (.int (B.getD i 0)):=λ_=>atI_nat (by rw[cQ,kz,eE hi];rfl)
  have he:∀h,FV h [.bl ((i:Int)==(a:Int))]=some (.int (if i=a then 1 else 0)):=λh=>by
   by_cases hh:i=a
   ·rw[if_pos hh,hh,f7];rfl
   ·rw[if_neg hh,show((i:Int)==(a:Int))=false by rw[hZ];lia];rfl
  have hm:∀h,jG h (.int (q:Int)) (.int (if i=a then 1 else 0))=some (.int ((q:Int)*(if i=a then 1 else 0))):=λh=>Nn (.inr (by split<;>decide))
  have hl:(pre.map (Rm B a q)).length<=100:=by rw[aU];lia
  rw[aQ];refine bA ?_;simp only[↓gk,hb,he,hm,D6,uo,Iv hl,h]
def wR(C:Int)(B:List Int)(a q:Nat):List Nat:=(List.range B.length).map (Rm B a q)++(if C/49%2==1&&(q:Int)%2==1 then [cp (C/98)]else [])
theorem Eh(c:CT){x1:Option PV}{C:Int}(B:List Int)(a q:Nat)(hB:B.length<=50){F:List PV}(hF:F.length<=100)(x7 x8:Option PV):∃L0,lx c ⟨[some (.int C),x1,some Rl,some (.int q),some (.lst (B.map .int)),some (.int a),some (.ref 0),x7,x8],[⟨.lst,F⟩]⟩=some (.ok .nx,⟨[some (.int C),x1,some Rl,some (.int q),some (.lst (B.map .int)),some (.int a),some (.ref 0),some (.str (strOf (wR C B a q))),L0],[⟨.lst,F++[.str (strOf (wR C B a q))]⟩]⟩):=by
 obtain⟨L0,h⟩:=nY c (x0:=some (.int C)) (x1:=x1) (x6:=some (.ref 0)) (h0:=[⟨.lst,F⟩]) B a q hB (List.range B.length) [] x8 rfl;obtain⟨l,hl⟩:∃l,l=(List.range B.length).map (Rm B a q):=⟨_,rfl⟩
 have ll:l.length<=100:=by rw[hl];simp;lia
 rw[<-hl]at h
 delta rj gq at h
 refine⟨L0,?_⟩;have e1:jw [⟨.lst,F⟩] [.lst (B.map .int)]=some (.int (B.length:Nat)):=by show some (PV.int (((B.map PV.int).length:Nat):Int))=_;rw[aU]
 have e2:=LR (n:=B.length) (by lia)
 have hF:=λρ v=>@aaj ρ F v (aY hF (by decide))
 simp only[di,<-CK]at h;refine bA ?_;unfold wR;rw[<-hl];cases h1:C/49%2==1
 ·simp only[↓gk,h,e1,e2,D6,h1,hF,Bool.false_and,eF,cJ,cY]
 ·cases h2:(q:Int)%2==1
  ·simp only[↓gk,h,e1,e2,D6,h1,h2,hF,Bool.true_and,eF,cJ,cY]
  ·simp only[↓gk,h,e1,e2,D6,h1,h2,hF,Bool.true_and,eI,uo,Iv ll]
theorem rO(c:CT){x1:Option PV}{C:Int}(B:List Int)(a:Nat)(hB:B.length<=50):∀(qs:List Nat) (F:List PV) (x3 x7 x8:Option PV),F.length+qs.length<=100->∃x3' x7' L0,fS (dh 3) (lx c) (qs.map λn:Nat=>.int (n:Int)) ⟨[some (.int C),x1,some Rl,x3,some (.lst (B.map .int)),some (.int a),some (.ref 0),x7,x8],[⟨.lst,F⟩]⟩=some (.ok .nx,⟨[some (.int C),x1,some Rl,x3',some (.lst (B.map .int)),some (.int a),some (.ref 0),x7',L0],[⟨.lst,F++qs.map λq=>.str (strOf (wR C B a q))⟩]⟩)
 | [],F,x3,x7,x8,_=>⟨x3,x7,x8,by simp;rfl⟩
 | q::qs,F,x3,x7,x8,hz=>by
  rw[cq]at hz;obtain⟨y8,h⟩:=Eh c (x1:=x1) (C:=C) B a q hB (F:=F) (by lia) x7 x8
  obtain⟨z3,z7,z8,h2⟩:=rO c (x1:=x1) (C:=C) B a hB qs (F++[.str (strOf (wR C B a q))]) (some (.int q)) (some (.str (strOf (wR C B a q)))) y8 (by simp;lia)
  refine⟨z3,z7,z8,?_⟩;rw[aQ,aQ,show F++PV.str (strOf (wR C B a q))::qs.map (λq=>PV.str (strOf (wR C B a q)))=F++[PV.str (strOf (wR C B a q))]++qs.map (λq=>PV.str (strOf (wR C B a q))) by simp]
  exact fC (s1:=⟨[some (.int C),x1,some Rl,some (.int q),some (.lst (B.map .int)),some (.int a),some (.ref 0),x7,x8],[⟨.lst,F⟩]⟩) rfl h h2
theorem L6{C:Int}{B:List Int}{a q q':Nat}(hp:a<B.length)(h1:q<26)(h2:q'<26)(h:strOf (wR C B a q)=strOf (wR C B a q')):q=q':=by
 have h:=um h;have at_:∀q:Nat,(wR C B a q)[a]?=some (cp (B.getD a 0+(q:Int))):=λq=>by
  unfold wR;rw[gz (by simp;lia),cQ,zf hp]
  simp[Rm]
 have e:=eU (λl=>l[a]?) h
 simp only[at_]at e;have:=Rk (aX e)
 lia
theorem Rq{C:Int}{B:List Int}{a q:Nat}(h1:1<=B.length):strOf (wR C B a q)≠"":=λh=>by
 have h:strOf (wR C B a q)=strOf []:=h.trans CK;have:=eU List.length (um h);unfold wR at this;rw[bO,aU,pE]at this;have:B.length+_=0:=this
 lia
noncomputable def nmX(N:Nat->Str):List Str:=(List.range 6).map N
theorem L7(k:Nat)(C:Int):∃N:Nat->Str,(∀i j,i<6->j<6->N i=N j->i=j)/\(∀i,N i≠"")/\run aM (k+1) "_law_names" [.int C,.int 6] []=some (.ok (.ref 0),[⟨.lst,(nmX N).map .str⟩]):=by
 obtain⟨ln,RT⟩:∃ln:Nat,1+C%7=(ln:Int):=⟨(1+C%7).toNat,by lia⟩
 obtain⟨B,hB⟩:∃B:List Int,B=(List.range ln).map λi:Nat=>(C/7/((i:Int)*i+1)+5*(i:Int))%26:=⟨_,rfl⟩
 have Bl:B.length=ln:=by rw[hB];simp
 obtain⟨a,ha⟩:∃a:Nat,C/7%(ln:Int)=(a:Int):=⟨(C/7%(ln:Int)).toNat,(zd (ib _ (by lia))).symm⟩
 have hal:a<B.length:=by
  have:=kE (C/7) (show(0:Int)<(ln:Int) by lia)
  lia
 obtain⟨x3,x7,x8,h⟩:=rO (run aM k) (x1:=some (.int 6)) (C:=C) B a (by lia) (List.range 6) [] none none none (by simp)
 refine⟨λq=>strOf (wR C B a q),λi j hi hj e=>L6 hal (by lia) (by lia) e,λi=>Rq (by lia),?_⟩
 have e1:=LR (n:=ln) (by lia)
 have e2:∀i∈List.range ln,∀h,jG h (.int (i:Int)) (.int (i:Int))=some (.int ((i:Int)*i)):=λi hi h=>Nn (.inl (by have:=uL.mp hi;have:(ot:Int)=18446744073709551616:=rfl;lia))
 have e3:∀i∈List.range ln,∀h (a:Int),gI h (.int a) (.int ((i:Int)*i+1))=some (.int (a/((i:Int)*i+1))):=λi hi h a=>by
  have hi:=uL.mp hi;have i0:(0:Int)<=(i:Int)*i:=Int.mul_nonneg (by lia) (by lia)
  have i49:(i:Int)*i<=49:=by
   rcases i with _ | _ | _ | _ | _ | _ | _ | _<;>first | lia | decide
  exact oR (by lia)
 have e4:∀i∈List.range ln,∀h,jG h (.int 5) (.int (i:Int))=some (.int (5*(i:Int))):=λi hi h=>Nn (.inl (by decide))
 have e5:(List.range ln).length<=4000000:=by rw[pE];lia
 have e6:(List.range ln).map (λi:Nat=>PV.int ((C/7/((i:Int)*i+1)+5*(i:Int))%26))=B.map .int:=by rw[hB,jn];rfl
 have e7:∀h,cB h (.int (C/7)) (.int (ln:Int))=some (.int (a:Int)):=λh'=>by rw[fx (by lia),ha]
 have e8:∀(f:Nat->PV) h,jw h [.lst ((List.range ln).map f)]=some (.int (ln:Int)):=λf h'=>by show some (PV.int ((((List.range ln).map f).length:Nat):Int))=_;rw[aU,pE]
 have e9:xH [.int 6]=some ((List.range 6).map λm:Nat=>.int (m:Int)):=LR (n:=6) (by decide)
 delta lx gq at h
 rw[dH,<-e6]at h;rw[AO];simp only[↓bI,RT,e1,e2,e3,e4,e5,e7,e8,e9,h,aU];rfl
end bH
set_option maxHeartbeats 4000000
namespace bH
open PySem L2 L2.U
noncomputable def gu(N:Nat->Str)(z y:Nat):Nm:=⟨N 0,N 1,N 2,N 3,N 4,N 5,z,y⟩
def i7(N:Nat->Str):PV:=.lst [.str (N 0),.str (N 1),.str (N 2),.str (N 3),.str (N 4),.str (N 5)]
def oS(z y:Nat):PV:=.lst [.int (z:Int),.int (y:Int)]
def IQ(M:Nm):Sp->Prop
 | .i (.at i)=>i<M.z
 | .j (.at i)=>i<M.y
 | .c=>False
 | .s=>False
 | _=>True
def IS(M:Nm):Op->Prop
 | .num i=>Bd i
 | .sp s=>IQ M s
theorem rP(x:Int):Bd (x%pd):=⟨ib _ (by decide +kernel),kE _ (by decide +kernel)⟩
theorem IQ.a{M:Nm}{V:Vs}(z:Vz M V){s:Sp}(h:IQ M s):QQ V s:=by
 cases s with
 | i x=>cases x with
  | «at» i=>exact(show i<V.c.length by rw[z.c];exact h)
  | _=>trivial
 | j x=>cases x with
  | «at» i=>exact(show i<V.s.length by rw[z.s];exact h)
  | _=>trivial
 | c=>exact h
 | s=>exact h
 | _=>trivial
theorem IS.a{M:Nm}{V:Vs}(K:oQ M V){o:Op}(h:IS M o):AV V o/\Bd (opV V o):=by
 cases o with
 | num i=>exact⟨trivial,h⟩
 | sp s =>
  refine⟨?_,Nh K s⟩;have:=IQ.a K.z h;cases s with
  | i x=>cases x<;>exact this
  | j x=>cases x<;>exact this
  | c=>exact this
  | s=>exact this
  | _=>trivial
theorem Iw(k:Int){n:Nat}(hn:0<n):∃p:Nat,k%(n:Int)=(p:Int)/\p<n:=⟨(k%(n:Int)).toNat,(zd (ib _ (by lia))).symm,by have:=kE k (show(0:Int)<n by lia);have:=ib k (show(n:Int)≠0 by lia);lia⟩
theorem j3{f g:Gx dB}{n:Nat}{ps qs:List PV}{h:List aj}(e:f ⟨gj n ps,h⟩=some (.ok .nx,⟨gj n qs,h⟩)):gT (qC f g) n ps h=gT g n qs h:=by
 show(qC f g _).bind MJ=_;rw[show qC f g _=_ from eB e rfl]
 rfl
theorem CM(c:Nat){N:Nat->Str}{z y:Nat}(K:bh (gu N z y))(k:Int):∃s,IQ (gu N z y) s/\run aM (c+1) "_law_spot" [i7 N,oS z y,.int k] []=some (.ok (gy (gu N z y) s),[]):=by
 have z1:1<=z:=K.z1;have y1:1<=y:=K.y1;obtain⟨m,hm⟩:∃m,k/6%8=m:=⟨_,rfl⟩
 obtain⟨p,hp,hpz⟩:=Iw m (n:=z) (by lia)
 obtain⟨q,hq,hqy⟩:=Iw m (n:=y) (by lia)
 have e1:∀h,gI h (.int k) (.int 6)=some (.int (k/6)):=λh=>oR (by decide)
 have e2:∀h,cB h (.int (k/6)) (.int 8)=some (.int m):=λh=>by rw[fx (by decide),hm]
 have e3:∀h,gI h (.int k) (.int 48)=some (.int (k/48)):=λh=>oR (by decide)
 have e4:∀h,cB h (.int m) (.int (z:Int))=some (.int (p:Int)):=λh=>by rw[fx (by lia),hp]
 have e5:∀h,cB h (.int m) (.int (y:Int))=some (.int (q:Int)):=λh=>by rw[fx (by lia),hq]
 have n1:∀h,lg h .aL (.int m)=some (.bl false):=λh=>rfl
 have n2:∀h s,lg h (.str s) (.int m)=some (.bl false):=λh s=>rfl
 have n3:∀h,lg h (.int m) (.int m)=some (.bl true):=λh=>by rw[D6,f7]
 have n4:∀h,lg h (.str (N 2)) (.str (N 4))=some (.bl false):=λh=>by rw[o9,show(N 2==N 4)=false from K.b (x:=.c) (y:=.e) (by decide)]
 have n5:∀h,lg h (.str (N 4)) (.str (N 4))=some (.bl true):=λh=>by rw[o9,f7]
 have l3:∀a b d:PV,[a,b,d].length<=4000000:=λ_ _ _=>by simp
 have l6:∀a b d e f g:PV,[a,b,d,e,f,g].length<=4000000:=λ_ _ _ _ _ _=>by simp
 have Mz:∀h a b d e,J5 h none (some 3) (.au [a,b,d,e])=some (.au [a,b,d]):=λh a b d e=>rfl
 obtain⟨x,w,i,h3,e6,hw⟩:∃(x:Ix) (w:PV) (i:Int),k/48%3=i/\(∀h,aZ h (.lst [.int m,.str (N 0),.str (N 1)]) (.int i)=some w)/\((w=.int m)\/(∃s,w=.str s)/\w=yt (gu N z y) x/\IQ (gu N z y) (.i x)/\IQ (gu N z y) (.j x)):=by
  rcases(by lia : k/48%3=0\/k/48%3=1\/k/48%3=2)with h | h | h
  ·exact⟨.a,_,_,h,λ_=>rfl,.inl rfl⟩
  ·exact⟨.a,_,_,h,λ_=>rfl,.inr ⟨⟨_,rfl⟩,rfl,trivial,trivial⟩⟩
  ·exact⟨.b,_,_,h,λ_=>rfl,.inr ⟨⟨_,rfl⟩,rfl,trivial,trivial⟩⟩
 have e7:∀h,cB h (.int (k/48)) (.int 3)=some (.int i):=λh=>by rw[fx (by decide),h3]
 obtain⟨S3,Np⟩:∃S:List PV,S=[.au [.str (N 0),.bl false,.au [],.aL],.au [.str (N 1),.bl false,.au [],.aL],.au [.str (N 2),.bl false,.au [],w]]:=⟨_,rfl⟩
 obtain⟨S6,Rt⟩:∃S:List PV,S=S3++[.au [.str (N 3),.bl false,.au [],.aL],.au [.str (N 4),.bl false,.au [.int 0],.aL],.au [.str (N 4),.bl false,.au [.int 1],w]]:=⟨_,rfl⟩
 rw[DV,j3 (qs:=[i7 N,oS z y,.int k,w]),j3 (qs:=[i7 N,oS z y,.int k,w,.lst S3]),j3 (qs:=[i7 N,oS z y,.int k,w,.lst S6])]
 rotate_left
 ·rw[Rt,Np];exact bA (by simp only[↓gk,i7,l3];rfl)
 ·rw[Np];exact bA (by simp only[↓gk,i7,l3];rfl)
 ·exact bA (by simp only[↓gk,i7,e1,e2,e3,e6,e7,l3];rfl)
 have Wl:(∃(s:Sp) (X:Str) (P:PV) (t:Int),IQ (gu N z y) s/\k%6=t/\(∀h,aZ h (.lst S6) (.int t)=some (.au [.str X,.bl false,P,.aL]))/\gy (gu N z y) s=.au [.str X,.bl false,P,.aL])\/k%6=2\/k%6=5:=by
  rcases(by lia : k%6=0\/k%6=1\/k%6=2\/k%6=3\/k%6=4\/k%6=5)with h | h | h | h | h | h
  ·exact .inl ⟨.a,_,_,_,trivial,h,λg=>by rw[Rt,Np];rfl,rfl⟩
  ·exact .inl ⟨.b,_,_,_,trivial,h,λg=>by rw[Rt,Np];rfl,rfl⟩
  ·exact .inr (.inl h)
  ·exact .inl ⟨.d,_,_,_,trivial,h,λg=>by rw[Rt,Np];rfl,rfl⟩
  ·exact .inl ⟨.n,_,_,_,trivial,h,λg=>by rw[Rt,Np];rfl,rfl⟩
  ·exact .inr (.inr h)
 rcases Wl with⟨s,X,P,t,hs,h1,h2,h3⟩ | h | h
 ·have e8:∀g,cB g (.int k) (.int 6)=_:=λg=>by rw[fx (by decide),h1]
  refine⟨s,hs,?_⟩;rw[h3];simp only[↓bI,e1,e2,e8,h2,n1]
 ·have e8:∀g,cB g (.int k) (.int 6)=_:=λg=>by rw[fx (by decide),h]
  have e9:∀g,aZ g (.lst S6) (.int 2)=some (.au [.str (N 2),.bl false,.au [],w]):=λg=>by rw[Rt,Np];rfl
  rcases hw with rfl | ⟨⟨s,rfl⟩,hx,w1,w2⟩
  ·exact⟨.i (.at p),hpz,by simp only[↓bI,i7,oS,e1,e2,e4,e8,e9,n3,n4,Mz];rfl⟩
  ·refine⟨.i x,w1,?_⟩;rw[show gy (gu N z y) (.i x)=.au [.str (N 2),.bl false,.au [],.str s] by rw[hx];rfl]
   simp only[↓bI,e1,e2,e8,e9,n2]
 ·have e8:∀g,cB g (.int k) (.int 6)=_:=λg=>by rw[fx (by decide),h]
  have e9:∀g,aZ g (.lst S6) (.int 5)=some (.au [.str (N 4),.bl false,.au [.int 1],w]):=λg=>by rw[Rt,Np];rfl
  rcases hw with rfl | ⟨⟨s,rfl⟩,hx,w1,w2⟩
  ·exact⟨.j (.at q),hqy,by simp only[↓bI,i7,oS,e1,e2,e5,e8,e9,n3,n5,Mz];rfl⟩
  ·refine⟨.j x,w2,?_⟩;rw[show gy (gu N z y) (.j x)=.au [.str (N 4),.bl false,.au [.int 1],.str s] by rw[hx];rfl]
   simp only[↓bI,e1,e2,e8,e9,n2]
theorem rQ(c:Nat){N:Nat->Str}{z y:Nat}(K:bh (gu N z y))(k q:Int):∃o,IS (gu N z y) o/\run aM (c+2) "_law_operand" [i7 N,oS z y,.int k,.int q] []=some (.ok (i6 (gu N z y) o),[]):=by
 have e4:=λh=>HV (h:=h)
 have e5:=λh x=>rG (h:=h) (x:=x)
 have e1:∀h,jG h (.int q) (.int 982451653)=some (.int (q*982451653)):=λh=>Nn (.inr (by decide))
 have e3:∀h,gI h (.int k) (.int 3)=some (.int (k/3)):=λh=>oR (by decide)
 have m3:∀h x,cB h (.int x) (.int 3)=some (.int (x%3)):=λh x=>fx (by decide)
 have q0:∀h x,lg h (.int x) (.int 0)=some (.bl (x==0)):=λh x=>rfl
 obtain⟨s,hs,e7⟩:=CM c K (k/3);have nr:∀x:Int,ao [i7 N,oS z y,.int x]=true:=λ_=>rfl
 rw[vZ];cases h1:k%3==0
 ·exact⟨.sp s,hs,by simp only[↓bI,e1,e3,e4,e5,m3,q0,h1,e7,nr,cE,cD];rfl⟩
 ·exact⟨.num _,rP _,by simp only[↓bI,e1,e3,e4,e5,m3,q0,h1];rfl⟩
end bH
set_option maxHeartbeats 4000000
namespace bH
open PySem L2 L2.U
def Ru(M:Nm)(m:Nat):Rw->Prop
 | .put s o=>IQ M s/\IS M o
 | .fill s o=>(s=.c\/s=.s)/\IS M o
 | .set s _ o p=>IQ M s/\IS M o/\IS M p
 | .eR s t=>(Eb s=true/\Eb t=true)\/(Ig s=true/\Ig t=true/\Na M s=Na M t)
 | .gU _=>True
 | .j9 o=>IS M o
 | .ifs o p k=>IS M o/\IS M p/\k<m
 | .go k=>k<m
 | .cV=>False
theorem aak(k:Int):k%2=0\/k%2=1:=by lia
theorem L8(k:Int):k%3=0\/k%3=1\/k%3=2:=by lia
theorem Iy(N:Nat->Str)(z y:Nat)(k:Int):∃i s,k%2=i/\(s=.c\/s=.s)/\∀h,aZ h (.lst [.au [.str (N 2),.bl false,.au [],.aL],.au [.str (N 4),.bl false,.au [.int 1],.aL]]) (.int i)=some (gy (gu N z y) s):=by
 rcases aak k with h | h
 ·exact⟨_,.c,h,.inl rfl,λ_=>rfl⟩
 ·exact⟨_,.s,h,.inr rfl,λ_=>rfl⟩
theorem Nq(N:Nat->Str)(z y:Nat)(k:Int):∃i s,k%3=i/\Eb s=true/\∀h,aZ h (.lst [.au [.str (N 0),.bl false,.au [],.aL],.au [.str (N 1),.bl false,.au [],.aL],.au [.str (N 4),.bl false,.au [.int 0],.aL]]) (.int i)=some (gy (gu N z y) s):=by
 rcases L8 k with h | h | h
 ·exact⟨_,.a,h,rfl,λ_=>rfl⟩
 ·exact⟨_,.b,h,rfl,λ_=>rfl⟩
 ·exact⟨_,.n,h,rfl,λ_=>rfl⟩
theorem Ei(c:Nat){N:Nat->Str}{z y:Nat}(k:Int)(m:Nat):∃r,Ru (gu N z y) m r/\run aM (c+1) "_law_copied" [i7 N,oS z y,.int k] []=some (.ok (bJ (gu N z y) r),[]):=by
 have d3:∀h,gI h (.int k) (.int 3)=some (.int (k/3)):=λh=>oR (by decide)
 have d6:∀h,gI h (.int k) (.int 6)=some (.int (k/6)):=λh=>oR (by decide)
 have d9:∀h,gI h (.int k) (.int 9)=some (.int (k/9)):=λh=>oR (by decide)
 obtain⟨i1,s1,h1,q1,e1⟩:=Iy N z y (k/3);obtain⟨i2,s2,h2,q2,e2⟩:=Iy N z y (k/6);obtain⟨i3,s3,h3,q3,e3⟩:=Nq N z y (k/3);obtain⟨i4,s4,h4,q4,e4⟩:=Nq N z y (k/9);have f1:∀h,cB h (.int (k/3)) (.int 2)=some (.int i1):=λh=>by rw[fx (by decide),h1]
 have f2:∀h,cB h (.int (k/6)) (.int 2)=some (.int i2):=λh=>by rw[fx (by decide),h2]
 have f3:∀h,cB h (.int (k/3)) (.int 3)=some (.int i3):=λh=>by rw[fx (by decide),h3]
 have f4:∀h,cB h (.int (k/9)) (.int 3)=some (.int i4):=λh=>by rw[fx (by decide),h4]
 have i3b:∃x:N5,∀h,(gh h (.int 2) (.int i3)).bind (λj=>aZ h (i7 N) j)=some (.str ((gu N z y).n x)):=by
  rcases L8 (k/3)with h | h | h<;>(rw[h]at h3;subst h3)
  ·exact⟨.c,λ_=>rfl⟩
  ·exact⟨.d,λ_=>rfl⟩
  ·exact⟨.e,λ_=>rfl⟩
 obtain⟨x,e5⟩:=i3b;have e5:∃j,(∀h,gh h (.int 2) (.int i3)=some (.int j))/\∀h,aZ h (i7 N) (.int j)=some (.str ((gu N z y).n x)):=⟨2+i3,λ_=>rfl,λh=>e5 h⟩
 obtain⟨j,e5,e6⟩:=e5;have e7:∀h,aZ h (i7 N) (.int 0)=some (.str (N 0)):=λ_=>rfl
 have e8:∀h,aZ h (i7 N) (.int 1)=some (.str (N 1)):=λ_=>rfl
 have e9:∀h,aZ h (i7 N) (.int 2)=some (.str (N 2)):=λ_=>rfl
 have e10:∀h,aZ h (i7 N) (.int 4)=some (.str (N 4)):=λ_=>rfl
 have l2:∀a b:PV,[a,b].length<=4000000:=λ_ _=>by simp
 have l3:∀a b d:PV,[a,b,d].length<=4000000:=λ_ _ _=>by simp
 have q0:∀h,lg h (.int (z:Int)) (.int (y:Int))=some (.bl ((z:Int)==(y:Int))):=λh=>rfl
 have t0:∀h,lg h (.int (0:Int)) (.int 0)=some (.bl true):=λh=>rfl
 rw[yn];rcases L8 k with h | h | h
 all_goals have m3:∀g,cB g (.int k) (.int 3)=_:=λg=>by rw[fx (by decide),h]
 ·cases hzy:(z:Int)==(y:Int)
  ·exact⟨.eR s3 s4,.inl ⟨q3,q4⟩,by simp only[↓bI,oS,d3,d9,f3,f4,m3,e3,e4,e7,e8,e9,e10,l2,l3,q0,hzy];rfl⟩
  ·have Wm:z=y:=by have:=pY.mp hzy;lia
   refine⟨.eR s1 s2,.inr ⟨by rcases q1 with rfl | rfl<;>rfl,by rcases q2 with rfl | rfl<;>rfl,by rcases q1 with rfl | rfl<;>rcases q2 with rfl | rfl<;>first | rfl | exact Wm | exact Wm.symm⟩,by simp only[↓bI,oS,d3,d6,f1,f2,m3,e1,e2,e7,e8,e9,e10,l2,l3,q0,hzy];rfl⟩
 ·exact⟨.gU x,trivial,by simp only[↓bI,oS,d3,f3,m3,e5,e6,e7,e8,e9,e10,l2,l3,q0];rfl⟩
 ·exact⟨.eR s3 s4,.inl ⟨q3,q4⟩,by simp only[↓bI,oS,d3,d9,f3,f4,m3,e3,e4,e7,e8,e9,e10,l2,l3,q0];rfl⟩
end bH
set_option maxHeartbeats 4000000
namespace bH
open PySem L2 L2.U
theorem Rv(c:Nat){N:Nat->Str}{z y:Nat}(K:bh (gu N z y)){m:Nat}(hm:1<=m)(MA:m<1000)(k:Int):∃r,Ru (gu N z y) m r/\run aM (c+3) "_law_row" [i7 N,oS z y,.int k,.int (m:Int)] []=some (.ok (bJ (gu N z y) r),[]):=by
 have w1:∀h,jG h (.int k) (.int 48271)=some (.int (k*48271)):=λh=>Nn (.inr (by decide))
 have w2:∀h,jG h (.int k) (.int 69621)=some (.int (k*69621)):=λh=>Nn (.inr (by decide))
 have w3:∀h,jG h (.int k) (.int 16807)=some (.int (k*16807)):=λh=>Nn (.inr (by decide))
 obtain⟨c0,hc0⟩:∃c0,k*48271%2147483647=c0:=⟨_,rfl⟩
 obtain⟨c1,YR⟩:∃c0,k*69621%2147483629=c0:=⟨_,rfl⟩
 obtain⟨c2,Ov⟩:∃c0,k*16807%2147483587=c0:=⟨_,rfl⟩
 have v1:∀h,cB h (.int (k*48271)) (.int 2147483647)=some (.int c0):=λh=>by rw[fx (by decide),hc0]
 have v2:∀h,cB h (.int (k*69621)) (.int 2147483629)=some (.int c1):=λh=>by rw[fx (by decide),YR]
 have v3:∀h,cB h (.int (k*16807)) (.int 2147483587)=some (.int c2):=λh=>by rw[fx (by decide),Ov]
 obtain⟨o,ho,eo⟩:=rQ c K c1 k;obtain⟨p,hp,ep⟩:=rQ c K c2 (k+1);obtain⟨s,hs,es⟩:=CM (c+1) K c0;obtain⟨r,hr,ec⟩:=Ei (c+1) (N:=N) (z:=z) (y:=y) c0 m;obtain⟨q,hq,hqm⟩:=Iw c0 (n:=m) (by lia)
 have eq:∀h,cB h (.int c0) (.int (m:Int))=some (.int (q:Int)):=λh=>by rw[fx (by lia),hq]
 have l3:∀a b d:PV,[a,b,d].length<=4000000:=λ_ _ _=>by simp
 have nr1:∀x y':Int,ao [i7 N,oS z y,.int x,.int y']=true:=λ_ _=>rfl
 have VX:∀x:Int,ao [i7 N,oS z y,.int x]=true:=λ_=>rfl
 obtain⟨n,hn,n0,n9⟩:∃n,k%12=n/\0<=n/\n<12:=⟨_,rfl,by lia,by lia⟩
 have v9:∀h,cB h (.int k) (.int 12)=some (.int n):=λh=>by rw[fx (by decide),hn]
 have qq:∀h (j:Int),lg h (.int n) (.int j)=some (.bl (n==j)):=λh j=>rfl
 have tt:∀h (j:Int),TX h (.int n) (.int j)=some (.bl (decide (n<j))):=λh j=>rfl
 have gg:∀h (j:Int),Yx h (.int n) (.int j)=some (.bl (decide (j<n))):=λh j=>rfl
 have d9:∀h,gI h (.int k) (.int 12)=some (.int (k/12)):=λh=>oR (by decide)
 obtain⟨g,i,hi,eg⟩:∃g i,k/12%3=i/\∀h,aZ h (.str "+-*") (.int i)=some (.str (Lh g)):=by
  rcases L8 (k/12)with h | h | h
  ·exact⟨.add,_,h,λ_=>rfl⟩
  ·exact⟨.sub,_,h,λ_=>rfl⟩
  ·exact⟨.mul,_,h,λ_=>rfl⟩
 have m3:∀h,cB h (.int (k/12)) (.int 3)=some (.int i):=λh=>by rw[fx (by decide),hi]
 obtain⟨i2,s2,h2,q2,e2⟩:=Iy N z y c0;have m2:∀h,cB h (.int c0) (.int 2)=some (.int i2):=λh=>by rw[fx (by decide),h2]
 have e9:∀h,aZ h (i7 N) (.int 2)=some (.str (N 2)):=λ_=>rfl
 have e10:∀h,aZ h (i7 N) (.int 4)=some (.str (N 4)):=λ_=>rfl
 have l2:∀a b:PV,[a,b].length<=4000000:=λ_ _=>by simp
 have ad:∀h,gh h (.int k) (.int 1)=some (.int (k+1)):=λh=>rfl
 rw[HA,j3 (qs:=[i7 N,oS z y,.int k,.int (m:Int),.lst [.int c0,.int c1,.int c2]]),j3 (qs:=[i7 N,oS z y,.int k,.int (m:Int),.lst [.int c0,.int c1,.int c2],i6 (gu N z y) o]),j3 (qs:=[i7 N,oS z y,.int k,.int (m:Int),.lst [.int c0,.int c1,.int c2],i6 (gu N z y) o,i6 (gu N z y) p])]
 rotate_left
 ·exact bA (by simp only[↓gk,ep,nr1,ad];rfl)
 ·exact bA (by simp only[↓gk,eo,nr1];rfl)
 ·exact bA (by simp only[↓gk,w1,w2,w3,v1,v2,v3,l3];rfl)
 rcases(by lia : (n=0\/n=1)\/(n=2\/n=3\/n=4)\/n=5\/n=6\/n=11\/(n=9\/n=10)\/(n=7\/n=8))with h | h | rfl | rfl | rfl | h | h
 ·have b1:decide (n<2)=true:=by rcases h with rfl | rfl<;>rfl
  exact⟨.put s o,⟨hs,ho⟩,by simp only[↓bI,v9,tt,b1,es,VX];rfl⟩
 ·have b1:decide (n<2)=false:=by rcases h with rfl | rfl | rfl<;>rfl
  have b2:decide (n<5)=true:=by rcases h with rfl | rfl | rfl<;>rfl
  exact⟨.set s g o p,⟨hs,ho,hp⟩,by simp only[↓bI,v9,tt,b1,b2,es,VX,eg,m3,d9];rfl⟩
 ·exact⟨.fill s2 o,⟨q2,ho⟩,by simp only[↓bI,v9,m2,e2,e9,e10,l2];rfl⟩
 ·exact⟨r,hr,by simp only[↓bI,v9,ec,VX]⟩
 ·exact⟨.go q,hqm,by simp only[↓bI,v9,eq];rfl⟩
 ·have b1:decide (n<2)=false:=by rcases h with rfl | rfl<;>rfl
  have b2:decide (n<5)=false:=by rcases h with rfl | rfl<;>rfl
  have b3:(n==5)=false:=by rcases h with rfl | rfl<;>rfl
  have b4:(n==6)=false:=by rcases h with rfl | rfl<;>rfl
  have b5:(n==11)=false:=by rcases h with rfl | rfl<;>rfl
  have b6:decide (8<n)=true:=by rcases h with rfl | rfl<;>rfl
  exact⟨.ifs o p q,⟨ho,hp,hqm⟩,by simp only[↓bI,v9,qq,tt,gg,b1,b2,b3,b4,b5,b6,eq];rfl⟩
 ·have b1:decide (n<2)=false:=by rcases h with rfl | rfl<;>rfl
  have b2:decide (n<5)=false:=by rcases h with rfl | rfl<;>rfl
  have b3:(n==5)=false:=by rcases h with rfl | rfl<;>rfl
  have b4:(n==6)=false:=by rcases h with rfl | rfl<;>rfl
  have b5:(n==11)=false:=by rcases h with rfl | rfl<;>rfl
  have b6:decide (8<n)=false:=by rcases h with rfl | rfl<;>rfl
  exact⟨.j9 o,ho,by simp only[↓bI,v9,qq,tt,gg,b1,b2,b3,b4,b5,b6];rfl⟩
end bH
set_option maxHeartbeats 4000000
namespace bH
open PySem L2 L2.U
noncomputable def cell(ns:List Int)(i:Nat):Int:=ns.getD i 0
theorem rR(k:Nat)(ns:List Int)(i:Nat):run aM (k+1) "_law_cell_at" [yd ns,.int (i:Int)] []=some (.ok (.int (cell ns i)),[]):=by
 rw[vY];have ln:jw [] [yd ns]=some (.int (ns.length:Int)):=by
  show some (PV.int (((ns.map PV.int).length:Nat):Int))=_;rw[aU]
 unfold cell;rw[kz];by_cases hi:i<ns.length
 ·have e:aZ [] (yd ns) (.int (i:Int))=some (.int ns[i]):=atI_nat (by rw[cQ,eE hi];rfl)
  simp only[↓bI,ln,e,eS (show(i:Int)<(ns.length:Int) by lia),eE hi,Option.getD_some]
 ·simp only[↓bI,ln,dz (show ¬(i:Int)<(ns.length:Int) by lia),uy (zw hi),zt]
theorem Rx{ns:List Int}(hl:ns.length<=63):∃ms:List Int,ms.length<=63/\∀h,J5 h (some 5) (some 25) (yd ns)=some (.lst (ms.map .int)):=by
 refine⟨(ns.drop (HT.d5 ns.length 0 (some 5))).take (HT.d5 ns.length ns.length (some 25)-HT.d5 ns.length 0 (some 5)),?_,λh=>?_⟩
 ·rw[kN,zm]
  lia
 show some (PV.lst (i8 (ns.map PV.int) (some 5) (some 25)))=_;unfold i8;rw[aU,List.map_take,List.map_drop]
theorem Hr{M:Nm}{R:List Rw}{x y w:Int}(hx:Bd x)(hy:Bd y)(hw:Bd w)(hR:∀r∈R,Ru M (R.length+6) r) :
  oC M ([.put .b (.num x),.fill .c (.num y),.put .d (.num w),.put .n (.sp .a),.fill .s (.num 1)]++R++[.cV]):=by
 have b1:Bd 1:=⟨by decide,by decide +kernel⟩
 have hF:∀r∈([.put .b (.num x),.fill .c (.num y),.put .d (.num w),.put .n (.sp .a),.fill .s (.num 1)]++R:List Rw),Ru M (R.length+6) r:=λr hr=>by
  rcases cR.mp hr with hr | hr
  ·simp only[aC,bB,bD]at hr;rcases hr with rfl | rfl | rfl | rfl | rfl
   ·exact⟨trivial,hx⟩
   ·exact⟨.inl rfl,hy⟩
   ·exact⟨trivial,hw⟩
   ·exact⟨trivial,trivial⟩
   ·exact⟨.inr rfl,b1⟩
  ·exact hR r hr
 refine⟨λi hi=>?_,λi r hr hg=>?_⟩
 ·rcases(by lia : i=0\/i=1\/i=2\/i=3\/i=4)with rfl | rfl | rfl | rfl | rfl
  ·exact⟨_,rfl,.b x hx⟩
  ·exact⟨_,rfl,.c y hy⟩
  ·exact⟨_,rfl,.d w hw⟩
  ·exact⟨_,rfl,.n⟩
  ·exact⟨_,rfl,.s 1 b1⟩
 ·have hl:([.put .b (.num x),.fill .c (.num y),.put .d (.num w),.put .n (.sp .a),.fill .s (.num 1)]++R++[.cV]:List Rw).length=R.length+6:=by simp
  rw[hl];have hi:i<R.length+5/\Ru M (R.length+6) r:=by
   by_cases h:i<R.length+5
   ·refine⟨h,hF r ?_⟩;rw[gz (by simp;lia)]at hr
    exact pj hr
   ·rw[kA (by simp;lia)]at hr
    cases bz.mp (pj hr);exact absurd rfl hg
  obtain⟨hi,hm⟩:=hi;cases r with
  | put s o=>exact⟨λV K=>⟨λp hp=>by rw[bz.mp hp];exact hm.2.a K,(λt ht=>by cases ht;exact .inl ⟨⟨_,rfl⟩,hm.1.a K.z⟩),(λ_ _ z=>by cases z),(λz=>by cases z)⟩,trivial,λV=>(by lia : i+1<R.length+6)⟩
  | fill s o=>exact⟨λV K=>⟨λp hp=>by rw[bz.mp hp];exact hm.2.a K,(λt ht=>by cases ht;exact .inr (.inl ⟨⟨_,rfl⟩,hm.1⟩)),(λ_ _ z=>by cases z),(λz=>by cases z)⟩,trivial,λV=>(by lia : i+1<R.length+6)⟩
  | set s g o p=>exact⟨λV K=>⟨λq hq=>by
     simp only[bP,aC,bB,bD]at hq;rcases hq with rfl | rfl
     ·exact hm.2.1.a K
     ·exact hm.2.2.a K,(λt ht=>by cases ht;exact .inr (.inr ⟨⟨_,_,_,rfl⟩,hm.1.a K.z⟩)),(λ_ _ z=>by cases z),(λz=>by cases z)⟩,trivial,λV=>(by lia : i+1<R.length+6)⟩
  | eR s t=>exact⟨λV K=>⟨(λp hp=>by cases hp),(λt ht=>by cases ht),(λa b z=>by cases z;exact hm.imp id λh=>⟨h.1,h.2.1⟩),(λz=>by cases z)⟩,hm,λV=>(by lia : i+1<R.length+6)⟩
  | gU x=>exact⟨λV K=>⟨(λp hp=>by cases hp),(λt ht=>by cases ht),(λ_ _ z=>by cases z),(λz=>by cases z)⟩,trivial,λV=>(by lia : i+1<R.length+6)⟩
  | j9 o=>exact⟨λV K=>⟨λp hp=>by rw[bz.mp hp];exact hm.a K,(λt ht=>by cases ht),(λ_ _ z=>by cases z),(λz=>by cases z)⟩,trivial,λV=>(by lia : i+1<R.length+6)⟩
  | ifs o p k=>exact⟨λV K=>⟨λq hq=>by
     simp only[bP,aC,bB,bD]at hq;rcases hq with rfl | rfl
     ·exact hm.1.a K
     ·exact hm.2.1.a K,(λt ht=>by cases ht),(λ_ _ z=>by cases z),(λz=>by cases z)⟩,trivial,λV=>by
      show(if opV V o<opV V p then k else i+1)<R.length+6
      split
      ·exact hm.2.2
      ·lia⟩
  | go k=>exact⟨λV K=>⟨(λp hp=>by cases hp),(λt ht=>by cases ht),(λ_ _ z=>by cases z),(λz=>by cases z)⟩,trivial,λV=>hm⟩
  | cV=>exact absurd rfl hg
end bH
set_option maxHeartbeats 4000000
namespace bH
open PySem L2 L2.U
theorem L9(l:List Int):ao (l.map PV.int)=true:=fO (λ_=>rfl) l
theorem yL(c:Nat){N:Nat->Str}{z y:Nat}(K:bh (gu N z y)){m:Nat}(hm:1<=m)(MA:m<1000){x0 x2 x4 x5 x6 x8:Option PV}{h0:List aj}(h4:h0.length=4):∀(L:List Int) (F:List PV) (Wn:Option PV),F.length+L.length<=100 ->
  ∃(R:List Rw) (Ry:Option PV),(∀r∈R,Ru (gu N z y) m r)/\R.length=L.length/\fS (dh 10) (iK (run aM (c+3))) (L.map .int) ⟨[x0,some (i7 N),x2,some (oS z y),x4,x5,x6,some (.ref 4),x8,some (.int (m:Int)),Wn],h0++[⟨.lst,F⟩]⟩=some (.ok .nx,⟨[x0,some (i7 N),x2,some (oS z y),x4,x5,x6,some (.ref 4),x8,some (.int (m:Int)),Ry],h0++[⟨.lst,F++R.map (bJ (gu N z y))⟩]⟩)
 | [],F,Wn,_=>⟨[],Wn,(λ_ h=>by cases h),rfl,by rw[di,di,cY];rfl⟩
 | k::L,F,Wn,hl=>by
  rw[cq]at hl;obtain⟨r,hr,er⟩:=Rv c K hm MA k;obtain⟨R,Ry,h1,h2,h3⟩:=yL c K hm MA h4 (x0:=x0) (x2:=x2) (x4:=x4) (x5:=x5) (x6:=x6) (x8:=x8) L (F++[bJ (gu N z y) r]) (some (.int k)) (by simp;lia)
  refine⟨r::R,Ry,?_,by simp[h2],?_⟩
  ·intro q hq;rcases aC.mp hq with rfl | hq
   ·exact hr
   ·exact h1 q hq
  have ap:∀ρ v,fu (dN fw) (.ref 4) [v] ⟨ρ,h0++[⟨.lst,F⟩]⟩=some (.ok .aL,⟨ρ,h0++[⟨.lst,F++[v]⟩]⟩):=λρ v=>by
   have:=wq (h:=h0) (L:=F) (v:=v) (ρ:=ρ) (by lia)
   rw[h4]at this;exact this
  have d1:cS (h0++[⟨.lst,F⟩]) (.ref 4)=some (.lst,F):=ak (by rw[<-h4];exact dv) rfl
  have nr4:ao [i7 N,oS z y,.int k,.int (m:Int)]=true:=rfl;rw[aQ,aQ,show F++bJ (gu N z y) r::R.map (bJ (gu N z y))=F++[bJ (gu N z y) r]++R.map (bJ (gu N z y)) by simp]
  refine fC (s1:=⟨[x0,some (i7 N),x2,some (oS z y),x4,x5,x6,some (.ref 4),x8,some (.int (m:Int)),some (.int k)],h0++[⟨.lst,F⟩]⟩) (s2:=⟨[x0,some (i7 N),x2,some (oS z y),x4,x5,x6,some (.ref 4),x8,some (.int (m:Int)),some (.int k)],h0++[⟨.lst,F++[bJ (gu N z y) r]⟩]⟩) rfl ?_ h3;refine bA ?_
  delta iK gq
  simp only[↓gk,er,ap,d1,nr4,cE,cD]
end bH
set_option maxHeartbeats 4000000
namespace bH
open PySem L2 L2.U
theorem Ba(c:Nat){ns:List Int}(hl:ns.length<=63):∃(M:Nm) (F:List Rw) (h':List aj),bh M/\oC M F/\F.length<=100/\0<F.length/\run aM (c+5) "_law_program" [yd ns] []=some (.ok (.au [fdP M F]),h'):=by
 obtain⟨N,hN,hN0,en⟩:=L7 (c+3) (cell ns 0);obtain⟨z,hz,z1,z8⟩:∃z:Nat,1+cell ns 1%8=(z:Int)/\1<=z/\z<=8:=⟨(1+cell ns 1%8).toNat,by lia,by lia,by lia⟩
 obtain⟨y,hy,y1,y8⟩:∃z:Nat,1+cell ns 1/8%8=(z:Int)/\1<=z/\z<=8:=⟨(1+cell ns 1/8%8).toNat,by lia,by lia,by lia⟩
 have K:bh (gu N z y):=⟨λ{p q} e=>by
  have go:∀x:N5,∃i:Nat,i<5/\(gu N z y).n x=N i/\∀w:N5,(gu N z y).n w=N i->x=w:=λx=>by
   have ne:∀i j:Nat,i<6->j<6->i≠j->N j≠N i:=λi j hi hj h e=>h (hN j i hj hi e).symm
   cases x
   ·exact⟨0,by decide,rfl,λw hw=>by cases w<;>first | rfl | exact absurd hw (ne _ _ (by decide) (by decide) (by decide))⟩
   ·exact⟨1,by decide,rfl,λw hw=>by cases w<;>first | rfl | exact absurd hw (ne _ _ (by decide) (by decide) (by decide))⟩
   ·exact⟨2,by decide,rfl,λw hw=>by cases w<;>first | rfl | exact absurd hw (ne _ _ (by decide) (by decide) (by decide))⟩
   ·exact⟨3,by decide,rfl,λw hw=>by cases w<;>first | rfl | exact absurd hw (ne _ _ (by decide) (by decide) (by decide))⟩
   ·exact⟨4,by decide,rfl,λw hw=>by cases w<;>first | rfl | exact absurd hw (ne _ _ (by decide) (by decide) (by decide))⟩
  obtain⟨i,_,h1,h2⟩:=go p;exact h2 _ (e.symm.trans h1),λx=>by cases x<;>exact hN0 _,z1,z8,y1,y8⟩
 obtain⟨cs,hc,esl⟩:=Rx hl;obtain⟨f,hf⟩:∃f,cell ns 2%pd=f:=⟨_,rfl⟩
 have bf:Bd f:=by rw[<-hf];exact rP _
 obtain⟨u,hu⟩:∃u,f%4=u:=⟨_,rfl⟩
 obtain⟨v,hv⟩:∃u,f*7%pd=u:=⟨_,rfl⟩
 obtain⟨w,hw⟩:∃u,f*f%pd=u:=⟨_,rfl⟩
 have bu:Bd u:=by rw[<-hu];exact⟨ib _ (by decide),Int.lt_trans (kE _ (by decide)) (by decide +kernel)⟩
 have bv:Bd v:=by rw[<-hv];exact rP _
 have bw:Bd w:=by rw[<-hw];exact rP _
 have e0:run aM (c+4) "_law_cell_at" [yd ns,.int 0] []=some (.ok (.int (cell ns 0)),[]):=rR (c+3) ns 0;have e1:run aM (c+4) "_law_cell_at" [yd ns,.int 1] []=some (.ok (.int (cell ns 1)),[]):=rR (c+3) ns 1;have e2:run aM (c+4) "_law_cell_at" [yd ns,.int 2] []=some (.ok (.int (cell ns 2)),[]):=rR (c+3) ns 2;have en2:gM [⟨.lst,(nmX N).map .str⟩] (.ref 0)=some (i7 N):=rA (fO (λ_=>rfl) _)
 have m8:∀h x,cB h (.int x) (.int 8)=some (.int (x%8)):=λh x=>fx (by decide)
 have f8:∀h,gI h (.int (cell ns 1)) (.int 8)=some (.int (cell ns 1/8)):=λh=>oR (by decide)
 have a1:∀h,gh h (.int 1) (.int (cell ns 1%8))=some (.int (z:Int)):=λh=>by show some (PV.int (1+cell ns 1%8))=_;rw[hz]
 have a2:∀h,gh h (.int 1) (.int (cell ns 1/8%8))=some (.int (y:Int)):=λh=>by show some (PV.int (1+cell ns 1/8%8))=_;rw[hy]
 have p30:=λh=>HV (h:=h)
 have mf:∀h,cB h (.int (cell ns 2)) (.int pd)=some (.int f):=λh=>by rw[rG,hf]
 have m4:∀h,cB h (.int f) (.int 4)=some (.int u):=λh=>by rw[fx (by decide),hu]
 have t7:∀h,jG h (.int f) (.int 7)=some (.int (f*7)):=λh=>Nn (.inr (by decide))
 have tf:∀h,jG h (.int f) (.int f)=some (.int (f*f)):=λh=>HX bf bf
 have mv:∀h,cB h (.int (f*7)) (.int pd)=some (.int v):=λh=>by rw[rG,hv]
 have mw:∀h,cB h (.int (f*f)) (.int pd)=some (.int w):=λh=>by rw[rG,hw]
 have ln:∀h,jw h [.lst (cs.map .int)]=some (.int (cs.length:Int)):=λh=>by show some (PV.int (((cs.map PV.int).length:Nat):Int))=_;rw[aU]
 have ad5:∀h,gh h (.int 5) (.int (cs.length:Int))=some (.int ((cs.length+5:Nat):Int)):=λh=>by show some (PV.int (5+(cs.length:Int)))=_;rw[show(5+(cs.length:Int))=((cs.length+5:Nat):Int) by lia]
 have ad6:∀h,gh h (.int ((cs.length+5:Nat):Int)) (.int 1)=some (.int ((cs.length+6:Nat):Int)):=λh=>rfl
 have l2:∀a b:PV,[a,b].length<=4000000:=λ_ _=>by simp
 have nrs:∀x:Int,ao [yd ns,.int x]=true:=λx=>by
  show(noRef (.lst (ns.map PV.int))&&_)=true;rw[wa (L9 ns)];rfl
 have i0:∀h,aZ h (i7 N) (.int 0)=some (.str (N 0)):=λ_=>rfl
 have i1:∀h,aZ h (i7 N) (.int 1)=some (.str (N 1)):=λ_=>rfl
 have i2:∀h,aZ h (i7 N) (.int 2)=some (.str (N 2)):=λ_=>rfl
 have i3:∀h,aZ h (i7 N) (.int 3)=some (.str (N 3)):=λ_=>rfl
 have i4:∀h,aZ h (i7 N) (.int 4)=some (.str (N 4)):=λ_=>rfl
 have i5:∀h,aZ h (i7 N) (.int 5)=some (.str (N 5)):=λ_=>rfl
 suffices H:∃R:List Rw,(∀r∈R,Ru (gu N z y) (cs.length+6) r)/\R.length=cs.length/\∃h',run aM (c+5) "_law_program" [yd ns] []=some (.ok (.au [fdP (gu N z y) ([.put .b (.num u),.fill .c (.num v),.put .d (.num w),.put .n (.sp .a),.fill .s (.num 1)]++R++[.cV])]),h') by
  obtain⟨R,h1,h2,h',h3⟩:=H;exact⟨gu N z y,_,h',K,Hr bu bv bw (by rw[h2];exact h1),by simp;lia,by simp,h3⟩
 obtain⟨A,hA⟩:∃A,A=bJ (gu N z y) (.put .b (.num u)):=⟨_,rfl⟩
 obtain⟨B,hB⟩:∃A,A=bJ (gu N z y) (.fill .c (.num v)):=⟨_,rfl⟩
 obtain⟨D,hD⟩:∃A,A=bJ (gu N z y) (.put .d (.num w)):=⟨_,rfl⟩
 obtain⟨E,hE⟩:∃A,A=bJ (gu N z y) (.put .n (.sp .a)):=⟨_,rfl⟩
 obtain⟨G,hG⟩:∃A,A=bJ (gu N z y) (.fill .s (.num 1)):=⟨_,rfl⟩
 obtain⟨R,Wn,h1,h2,g3⟩:=yL (c+1) K (m:=cs.length+6) (by lia) (by lia) (x0:=some (yd ns)) (x2:=some (.int (cell ns 1))) (x4:=some (Lg y)) (x5:=some (.au ([N5.b,.c,.d,.e].map (sJ (gu N z y))))) (x6:=some (.int f)) (x8:=some (.lst (cs.map .int))) (h0:=[⟨.lst,[A]⟩,⟨.lst,[A,B]⟩,⟨.lst,[A,B,D]⟩,⟨.lst,[A,B,D,E]⟩]) rfl cs [A,B,D,E,G] none (by simp;lia)
 refine⟨R,h1,h2,?_⟩;obtain⟨T,hT⟩:∃T,T=[A,B,D,E,G]++R.map (bJ (gu N z y)):=⟨_,rfl⟩
 have hF:fdP (gu N z y) ([.put .b (.num u),.fill .c (.num v),.put .d (.num w),.put .n (.sp .a),.fill .s (.num 1)]++R++[.cV])=.au [.str (N 5),.au [.au [.str (N 0),yq]],.aL,.au ([N5.b,.c,.d,.e].map (sJ (gu N z y))),.au (T++[.au [.str "give",.str ""]])]:=by
  rw[hT,hA,hB,hD,hE,hG];unfold fdP;rw[fF,fF];rfl
 rw[hF];rw[<-hT]at g3;have lT:T.length<=4000:=by rw[hT,bO,aU];simp;lia
 have ap:∀ρ a b d e x,fu (dN fw) (.ref 4) [x] ⟨ρ,[a,b,d,e,⟨.lst,T⟩]⟩=some (.ok .aL,⟨ρ,[a,b,d,e,⟨.lst,T++[x]⟩]⟩):=λρ a b d e x=>wq (h:=[a,b,d,e]) lT
 have l5:∀a b d e p q r s t,jw [a,b,d,e,⟨.lst,[p,q,r,s,t]⟩] [.ref 4]=some (.int 5):=λa b d e p q r s t=>rfl
 have tC:∀a b d e l,FU [a,b,d,e,⟨.lst,l⟩] [.ref 4]=some (.au l):=λa b d e l=>rfl
 clear hT hF;subst hA hB hD hE hG
 delta iK gq at g3
 simp only[aQ,di,kO,dH,bJ,gy,i6,gu,oS,Lg,yq,yr,sJ,kr,Nm.n]at g3 ⊢;rw[v5];exact⟨_,by simp only[↓bI,e0,e1,e2,en,en2,m8,f8,a1,a2,p30,mf,m4,t7,tf,mv,mw,ln,ad5,ad6,l2,nrs,i0,i1,i2,i3,i4,i5,esl,ap,l5,tC,g3,cE,cD];rfl⟩
end bH
set_option maxHeartbeats 4000000
namespace bH
open PySem L2 L2.U
theorem Iz(ns:List Int)(h:ns.length<=63):W7 (run aM 30 "law" [yd ns] []):=by
 obtain⟨M,F,hp,K,W,hl,h0,ep⟩:=Ba 24 h;obtain⟨most,hm,aeP⟩:=Iw (cell ns 4) (n:=61) (by decide)
 obtain⟨oth,ho,aeQ⟩:=Iw (cell ns 4/61) (n:=61) (by decide)
 obtain⟨CN,hB,Ma⟩:∃CN:Int,Bd CN/\CN=if(cell ns 3/3%3==0)=true then cell ns 3%pd%5 else cell ns 3%pd:=⟨_,by
  split
  ·exact⟨ib _ (by decide),Int.lt_trans (kE _ (by decide)) (by decide +kernel)⟩
  ·exact rP _,rfl⟩
 have fp:∀h,gM h (.au [fdP M F])=some (.au [fdP M F]):=λh=>Hw (by simp[noRef,ao,nX])
 have Xj:noRef (.au [fdP M F])=true:=by simp[noRef,ao,nX]
 obtain⟨P,hP⟩:∃P,P=PV.au [fdP M F]:=⟨_,rfl⟩
 have pl:=fun(n:Nat) (hn:n<=4000)=>Wg 13 K W hl h0 hB (most:=n) (by lia)
 have du:=fun(n:Nat) (hn:n<=4000)=>Rj 24 K W h0 hB hn
 rw[<-hP]at ep fp Xj pl du;have Rz:∀n:Nat,n<=4000->run aM 29 "_law_told" [LM M F n CN,LU M F n CN] []=some (.ok (.bl true),[]):=λn hn=>by
  obtain⟨_,_,_,_,hl⟩:=du n hn;exact LZ 27 _ (by lia) _
 obtain⟨q1,h1,e1,f1⟩:=pl most (by lia)
 obtain⟨q2,h2,e2,f2⟩:=pl oth (by lia)
 obtain⟨q3,h3,e3,f3⟩:=pl 400 (by decide)
 obtain⟨d1,g1,x1,y1,_⟩:=du most (by lia)
 obtain⟨d2,g2,x2,y2,_⟩:=du oth (by lia)
 obtain⟨d3,g3,x3,y3,_⟩:=du 400 (by decide)
 have t1:=Rz most (by lia)
 have t2:=Rz oth (by lia)
 have t3:=Rz 400 (by decide)
 have e3:run aM 29 "run" [P,.lst [.int CN],.int 400] []=some (.ok q3,h3):=e3;have x3:run aM 29 "_law_due" [P,.int CN,.int 400] []=some (.ok d3,g3):=x3;have c3:run aM 29 "_law_cell_at" [yd ns,.int 3] []=some (.ok (.int (cell ns 3)),[]):=rR 28 ns 3;have c4:run aM 29 "_law_cell_at" [yd ns,.int 4] []=some (.ok (.int (cell ns 4)),[]):=rR 28 ns 4;have p30:=λh=>HV (h:=h)
 have m30:=λh x=>rG (h:=h) (x:=x)
 have m3:∀h,cB h (.int (cell ns 3/3)) (.int 3)=some (.int (cell ns 3/3%3)):=λh=>fx (by decide)
 have m5:∀h,cB h (.int (cell ns 3%pd)) (.int 5)=some (.int (cell ns 3%pd%5)):=λh=>fx (by decide)
 have m61:∀h,cB h (.int (cell ns 4)) (.int 61)=some (.int (most:Int)):=λh=>by rw[fx (by decide)];exact eU _ (eU _ hm)
 have d3':∀h,gI h (.int (cell ns 3)) (.int 3)=some (.int (cell ns 3/3)):=λh=>oR (by decide)
 have d61:∀h,gI h (.int (cell ns 4)) (.int 61)=some (.int (cell ns 4/61)):=λh=>oR (by decide)
 have dq:∀h,gI h (.int (cell ns 4)) (.int 3721)=some (.int (cell ns 4/3721)):=λh=>oR (by decide)
 have m4:∀h,cB h (.int (cell ns 4/3721)) (.int 4)=some (.int (cell ns 4/3721%4)):=λh=>fx (by decide)
 have mo:∀h,cB h (.int (cell ns 4/61)) (.int 61)=some (.int (oth:Int)):=λh=>by rw[fx (by decide)];exact eU _ (eU _ ho)
 have q0:∀h x,lg h (.int x) (.int 0)=some (.bl (x==0)):=λh x=>rfl
 have ql:∀h,lg h (.lst [.int CN]) (.lst [.int CN])=some (.bl true):=λh=>by
  show some (PV.bl (eqT (.lst [.int CN]) (.lst [.int CN])))=_;rw[fT]
 have l1:∀a:PV,[a].length<=4000000:=λ_=>by simp
 have n1:∀a b,ao [P,.int a,.int b]=true:=λa b=>by simp[ao,Xj,noRef]
 have n2:∀a b,ao [P,.lst [.int a],.int b]=true:=λa b=>by simp[ao,Xj,noRef]
 have n3:∀a,ao [P,.lst [.int a]]=true:=λa=>by simp[ao,Xj,noRef]
 have cd:∀ρ,qT 0 3 (run aM 29 "run") [.int 400] [P,.lst [.int CN]] ⟨ρ,[]⟩=some (.ok (LM M F 400 CN),⟨ρ,[]⟩):=λρ=>Cd (as:=[P,.lst [.int CN],.int 400]) (st:=⟨ρ,[]⟩) rfl rfl e3 f3
 rw[show run aM 30 "law"=_ from Ld 29]
 refine(λo (h:o=some (Rs.ok (PV.bl true),[]))=>(⟨[],h⟩:W7 o)) _ ?_
 cases b1:cell ns 3/3%3==0<;>rw[b1]at Ma
 all_goals first | rw[if_pos rfl]at Ma | rw[if_neg cf]at Ma
 all_goals rw[Ma]at cd e1 e2 x1 x2 x3 t1 t2 t3 f1 f2 y1 y2 y3 ql
 all_goals cases b2:cell ns 4/3721%4==0
 all_goals simp only[↓bI,ep,fp,c3,c4,p30,m30,m3,m5,m61,d3',d61,dq,m4,mo,q0,b1,b2,x1,y1,e1,f1,t1,e2,f2,x2,y2,t2,x3,y3,cd,t3,ql,l1,n1,n2,n3]
end bH
noncomputable section
open PySem PySem.W PyProof.Rows PySem.Calls
theorem PySem.Challenge.cw_lendrule_k54_runs_with_jumps_holds : PySem.Challenge.rw_lendrule_k54_runs_with_jumps.Holds := by
 exact bH.jc λd h1 h2=>L2.U.Hv (P:=bH.aM) (N:=30) (st:=bH.Vu) (x:="_law_script") (l:=PySem.Challenge.rw_lendrule_k54_runs_with_jumps) (by kernel_rfl) (by kernel_rfl) rfl h1 h2 ⟨rfl,by decide,by decide⟩ (by kernel_rfl) bH.hnd rfl (λw h Y=>Y) bH.Iz
end
